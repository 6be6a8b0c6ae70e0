/- The fixed fact on sets holds. -/
import Derived.Test.YtiinibblfodaaaaDoorSet
import Derived.Below
import Derived.Laws.Rows
import Derived.WalkSmall
namespace Go.Proofs.YtiinibblfodaaaaDoor
open Go.RowKit
theorem of_ex : ofN [3, 70, 0] = 9 := by decide +kernel
theorem awake (w : World) : Calls Tryd.prog 5 #[] w fun e w' => e = .returned (.bool true) ∧ Below w.heap.size w w' := by
  go_enter Tryd.func5, Tryd.ntmps5
  go_wp2_with fail
  refine (of_some _ 0 _ [3, 70, 0] _ (by simp) ?_).mono ?_
  · intro j hj
    rw [cell_of_row _ _ _ _ _ _ (heap_alloc_new _ _), Nat.zero_add]
    match j, hj with
    | 0, _ => rfl
    | 1, _ => rfl
    | 2, _ => rfl
  rintro e w' ⟨rfl, rfl⟩
  rw [of_ex]
  go_wp2_with fail
  go_ret
  exact ⟨rfl, (Below.refl _ _).alloc (Nat.le_refl _) _⟩
end Go.Proofs.YtiinibblfodaaaaDoor
