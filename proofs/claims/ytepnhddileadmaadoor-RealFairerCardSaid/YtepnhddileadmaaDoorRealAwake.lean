/- The fixed fact of layer 2 holds. -/
import Derived.Test.YtepnhddileadmaaDoorRealText
import Derived.Test.YtepnhddileadmaaDoorLaid
namespace Go.Proofs.YtepnhddileadmaaDoor
open Go.RowKit
open Ieee (double)
open Go.Lib (decDigits itoa)

theorem aw_div : double.div (floatOfInt .f64 0) (floatOfInt .f64 (-5)) = some 9223372036854775808 := by decide +kernel
theorem aw_kind : kindN 9223372036854775808 = 2 := by decide
theorem aw_nan : double.div (floatOfInt .f64 0) (floatOfInt .f64 0) = none := by decide +kernel
theorem aw_yes : acceptB 1 4607182418800017408 2147483647 = true := by decide +kernel
theorem aw_no : acceptB 1 4607182418800017408 2147483648 = false := by decide +kernel
theorem aw_milli : milliR 4611685568067425167 = 1999 := by decide +kernel
theorem aw_text : textL 4611685568067425167 = [49, 46, 57, 57, 57] := by
  have h1 : kindN 4611685568067425167 = 4 := by decide
  have h2 : rung 4611685568067425167 = 4611685568067425167 := by decide
  unfold textL
  rw [if_neg (by omega), if_neg (by omega), h2]
  unfold sizeL
  rw [if_neg (by decide), if_neg (by decide), aw_milli, pointed_eq, itoa_nat, itoa_nat, show 1999 / 1000 = 1 by decide, show 1999 % 1000 = 999 by decide, pad_three 999 (by decide), decDigits_lt 1 (by decide)]
  rfl

theorem awake (w : World) (htab : Lib.TabIs Tryd.prog w "internal/strconv.uint64pow10" .u64 Lib.pow10Tab) (hg : 1 < w.heap.size) : Calls Tryd.prog 11 #[] w fun e w' => e = .returned (.bool true) ∧ Below w.heap.size w w' := by
  have HT := Lib.hid htab; clear htab
  have HA := Lib.hid aw_div
  have HN := Lib.hid aw_nan
  have HT2 := Lib.hid aw_text
  have k2 := aw_kind
  go_enter Tryd.func11, Tryd.ntmps11
  go_wp2_with fail
  refine (ratio_any _ _ _).mono ?_
  rintro e w1 ⟨z, hz, rfl, hb1⟩
  rw [HA.out] at hz
  obtain ⟨_, rfl⟩ := hz
  go_wp2_with fail
  refine (of_any _ (by omega) _).mono ?_
  rintro e w' ⟨rfl, rfl⟩
  go_wp2_with fail
  refine (ratio_any _ _ _).mono ?_
  rintro e w2 ⟨z, hz, rfl, hb2⟩
  rw [HN.out] at hz
  obtain ⟨hz1, hz2⟩ := hz
  have hk : kindN z = 6 := (kind_six z).2 hz2
  clear hz2
  go_wp2_with fail
  refine (of_any _ hz1 _).mono ?_
  rintro e w' ⟨rfl, rfl⟩
  go_wp2_with fail
  refine (accept_any 1 4607182418800017408 2147483647 (by unfold Fits; omega) (by omega) (by omega) _).mono ?_
  rw [aw_yes]
  rintro e w3 ⟨rfl, hb3⟩
  go_wp2_with fail
  refine (accept_any 1 4607182418800017408 2147483648 (by unfold Fits; omega) (by omega) (by omega) _).mono ?_
  rw [aw_no]
  rintro e w4 ⟨rfl, hb4⟩
  go_wp2_with fail
  have hb : Hid (Below w.heap.size w w4) := Lib.hid (hb1.trans ((hb2.mono hb1.size).trans ((hb3.mono (Nat.le_trans hb1.size hb2.size)).trans (hb4.mono (Nat.le_trans (Nat.le_trans hb1.size hb2.size) hb3.size)))))
  refine (real_text_any _ (by omega) _ (tab_below hb.out hg HT.out)).mono ?_
  rw [HT2.out]
  rintro e w5 ⟨rfl, hb5⟩
  go_wp2_with fail
  go_ret
  exact ⟨rfl, hb.out.trans (hb5.mono hb.out.size)⟩
end Go.Proofs.YtepnhddileadmaaDoor
