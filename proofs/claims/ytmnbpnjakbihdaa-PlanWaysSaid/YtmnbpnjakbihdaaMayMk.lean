/- What the law's maker makes may be. -/
import Derived.Test.YtmnbpnjakbihdaaMayT
import Derived.Test.YtmnbpnjakbihdaaIMakeOk
namespace Go.Proofs.Ytmnbpnjakbihdaa

theorem may_make {s : Sm} (h : SmOk s) : May (makeI s) := May.of_err (makeI_ok h)
end Go.Proofs.Ytmnbpnjakbihdaa
