/- Package inst: Sat. -/
import Derived.Test.YtmnbpnjakbihdaaINode
namespace Go.Proofs.Ytmnbpnjakbihdaa
open Go.RowKit

variable {w : World} {A : InA} {x : Ins}
theorem sat_any (A : InA) (x : Ins) (s : Int) (w : World) :
    Calls Try.prog 45 #[.agg (insC A x), .int .i64 s] w fun e w' => e = .returned (.int .i64 (wrap64 (1 + s))) ∧ Below w.heap.size w w' := by
  have HB := Lib.hid ((Below.refl w.heap.size w).alloc (Nat.le_refl _) (.cells (insC A x) 37))
  unfold insC at *
  go_enter Try.func45, Try.ntmps45
  go_wp2_with fail
  go_ret
  exact ⟨rfl, HB.out⟩
end Go.Proofs.Ytmnbpnjakbihdaa
