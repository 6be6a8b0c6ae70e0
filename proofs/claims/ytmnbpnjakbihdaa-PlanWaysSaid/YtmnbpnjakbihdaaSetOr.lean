/- What Or of package set answers. -/
import Derived.Test.YtmnbpnjakbihdaaSetW
namespace Go.Proofs.Ytmnbpnjakbihdaa
open Go.RowKit

theorem or_any (s o : Nat) (hs : s < 18446744073709551616) (ho : o < 18446744073709551616) (w : World) : Calls Try.prog 64 #[.int .u64 (s : Nat), .int .u64 (o : Nat)] w fun e w' => e = .returned (.int .u64 (s ||| o : Nat)) ∧ w = w' := by
  have hv := Lib.hid (u64_or_nat s o hs ho)
  go_enter Try.func64, Try.ntmps64
  go_wp2
  go_ret
  exact ⟨ret_int hv.out, rfl⟩
end Go.Proofs.Ytmnbpnjakbihdaa
