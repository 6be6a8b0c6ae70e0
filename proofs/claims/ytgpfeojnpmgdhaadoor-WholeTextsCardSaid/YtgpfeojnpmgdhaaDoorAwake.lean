/- The fixed fact holds. -/
import Derived.Test.YtgpfeojnpmgdhaaDoorArith
import Derived.Test.YtgpfeojnpmgdhaaDoorParse
namespace Go.Proofs.YtgpfeojnpmgdhaaDoor
open Go.RowKit
theorem fo1 : fitOk 9223372036854775808 = false := by decide
theorem fo2 : fitOk (-9223372036854775808) = true := by decide
theorem fv2 : fitV (-9223372036854775808) = -9223372036854775808 := by decide
theorem cl2 : ceilV 7 2 = 4 := by decide
theorem p07 : parseO [48, 55] = none := by decide
theorem awake (w : World) : Calls Tryd.prog 4 #[] w fun e w' => e = .returned (.bool true) ∧ Below w.heap.size w w' := by
  have h1 := fo1
  have h2 := fo2
  have h3 := fv2
  have h4 := cl2
  go_enter Tryd.func4, Tryd.ntmps4
  go_wp2_with (go_at_call 8; refine (add_any _ _ (by unfold Fits; omega) (by unfold Fits; omega) _).mono ?_; rintro e w' ⟨rfl, rfl⟩)
  go_wp2_with (go_at_call 9; refine (mul_any _ _ (by unfold Fits; omega) (by unfold Fits; omega) _).mono ?_; rintro e w' ⟨rfl, rfl⟩)
  go_wp2_with (go_at_call 6; refine (parse_any _ (by decide) _).mono ?_; rintro e w1 ⟨rfl, hb1⟩)
  go_wp2_with (go_at_call 10; refine (ceil_any _ _ (by unfold Fits; omega) (by unfold Fits; omega) _).mono ?_; rintro e w' ⟨rfl, rfl⟩)
  go_ret
  exact ⟨ret_bool (by decide), hb1⟩
end Go.Proofs.YtgpfeojnpmgdhaaDoor
