/- What Of and Less of package real answer. -/
import Derived.Test.YtepnhddileadmaaDoorMath
namespace Go.Proofs.YtepnhddileadmaaDoor
open Go.RowKit
open Ieee (double)

/-- The infinity below, the infinity above. -/
def infB (below : Bool) (b : Nat) : Bool := decide (rung b = 9218868437227405312) && (negB b == below)
theorem max_not : nanB 9218868437227405311 = false := by decide
theorem key_max : key 9218868437227405311 = 9218868437227405311 := by decide
theorem isInf_below (b : Nat) (hb : b < 18446744073709551616) (hn : nanB b = false) (w : World) : Calls Tryd.prog 27 #[.float .f64 b, .int .i64 (-1)] w fun e w' => e = .returned (.bool (infB true b)) ∧ w = w' := by
  have hv : Hid ((FloatKind.f64.format.order (Op.negFloat .f64 b) 9218868437227405311 == some Ordering.gt) = infB true b) := by
    refine Lib.hid ?_
    have e := neg_float b hb
    have hn' : rung b ≤ 9218868437227405312 := by simpa [nanB] using hn
    have hr : rung (Op.negFloat .f64 b) = rung b := by rw [e]; unfold rung; split <;> omega
    have hlt : Op.negFloat .f64 b < 18446744073709551616 := by rw [e]; split <;> omega
    rw [gt_word _ _ hlt (by omega) (by unfold nanB; rw [hr]; exact hn) max_not, key_max]
    unfold key
    rw [hr]
    unfold infB negB
    rw [Bool.eq_iff_iff]
    simp
    rw [e]
    by_cases c : 9223372036854775808 ≤ b
    · rw [if_pos c, if_neg (by omega)]; simp [c] <;> omega
    · rw [if_neg c, if_pos (by omega)]; simp [c] <;> omega
  have hneg : ∀ c : Nat, Op.unary .neg (.float .f64 c) = pure (.float .f64 (Op.negFloat .f64 c)) := fun _ => rfl
  clear hn
  go_enter Tryd.func27, Tryd.ntmps27
  go_wp2
  go_ret
  exact ⟨ret_bool hv.out, rfl⟩
theorem isInf_above (b : Nat) (hb : b < 18446744073709551616) (hn : nanB b = false) (w : World) : Calls Tryd.prog 27 #[.float .f64 b, .int .i64 1] w fun e w' => e = .returned (.bool (infB false b)) ∧ w = w' := by
  have hv : Hid ((FloatKind.f64.format.order b 9218868437227405311 == some Ordering.gt) = infB false b) := by
    refine Lib.hid ?_
    have hn' : rung b ≤ 9218868437227405312 := by simpa [nanB] using hn
    rw [gt_word _ _ hb (by omega) hn max_not, key_max]
    unfold key infB negB
    rw [Bool.eq_iff_iff]
    simp
    by_cases c : 9223372036854775808 ≤ b
    · rw [if_pos c]; first | omega | (simp [c] <;> omega)
    · rw [if_neg c]; first | omega | (simp [c] <;> omega)
  clear hn
  go_enter Tryd.func27, Tryd.ntmps27
  go_wp2
  go_ret
  exact ⟨ret_bool hv.out, rfl⟩

theorem lt_zero (b : Nat) (hb : b < 18446744073709551616) (hn : nanB b = false) : (FloatKind.f64.format.order b 0 == some Ordering.lt) = decide (key b < 0) := by
  rw [lt_word b 0 hb (by omega) hn (by decide), show key 0 = 0 by decide]
theorem gt_zero (b : Nat) (hb : b < 18446744073709551616) (hn : nanB b = false) : (FloatKind.f64.format.order b 0 == some Ordering.gt) = decide (0 < key b) := by
  rw [gt_word b 0 hb (by omega) hn (by decide), show key 0 = 0 by decide]

theorem of_none (b : Nat) (hb : b < 18446744073709551616) (hn : nanB b = true) (hv : Hid (kindN b = 6)) (w : World) : Calls Tryd.prog 12 #[.float .f64 b] w fun e w' => e = .returned (.int .i64 (kindN b)) ∧ w = w' := by
  go_enter Tryd.func12, Tryd.ntmps12
  go_wp2_with fail
  refine (isNaN_any _ hb _).mono ?_
  rintro e w' ⟨rfl, rfl⟩
  go_wp2_with fail
  go_ret
  exact ⟨ret_int hv.out.symm, rfl⟩
theorem of_below (b : Nat) (hb : b < 18446744073709551616) (hn : nanB b = false) (hv : Hid (kindN b = 0)) (i1 : infB true b = true) (w : World) : Calls Tryd.prog 12 #[.float .f64 b] w fun e w' => e = .returned (.int .i64 (kindN b)) ∧ w = w' := by
  have HN := Lib.hid hn
  go_enter Tryd.func12, Tryd.ntmps12
  go_wp2_with fail
  refine (isNaN_any _ hb _).mono ?_
  rintro e w' ⟨rfl, rfl⟩
  go_wp2_with fail
  refine (isInf_below _ hb HN.out _).mono ?_
  rintro e w' ⟨rfl, rfl⟩
  go_wp2_with fail
  go_ret
  exact ⟨ret_int hv.out.symm, rfl⟩
theorem of_above (b : Nat) (hb : b < 18446744073709551616) (hn : nanB b = false) (hv : Hid (kindN b = 5)) (i1 : infB true b = false) (i2 : infB false b = true) (w : World) : Calls Tryd.prog 12 #[.float .f64 b] w fun e w' => e = .returned (.int .i64 (kindN b)) ∧ w = w' := by
  have HN := Lib.hid hn
  go_enter Tryd.func12, Tryd.ntmps12
  go_wp2_with fail
  refine (isNaN_any _ hb _).mono ?_
  rintro e w' ⟨rfl, rfl⟩
  go_wp2_with fail
  refine (isInf_below _ hb HN.out _).mono ?_
  rintro e w' ⟨rfl, rfl⟩
  go_wp2_with fail
  refine (isInf_above _ hb HN.out _).mono ?_
  rintro e w' ⟨rfl, rfl⟩
  go_wp2_with fail
  go_ret
  exact ⟨ret_int hv.out.symm, rfl⟩
theorem of_negative (b : Nat) (hb : b < 18446744073709551616) (hn : nanB b = false) (hv : Hid (kindN b = 1)) (i1 : infB true b = false) (i2 : infB false b = false) (k1 : (FloatKind.f64.format.order b 0 == some Ordering.lt) = true) (w : World) : Calls Tryd.prog 12 #[.float .f64 b] w fun e w' => e = .returned (.int .i64 (kindN b)) ∧ w = w' := by
  have HN := Lib.hid hn
  go_enter Tryd.func12, Tryd.ntmps12
  go_wp2_with fail
  refine (isNaN_any _ hb _).mono ?_
  rintro e w' ⟨rfl, rfl⟩
  go_wp2_with fail
  refine (isInf_below _ hb HN.out _).mono ?_
  rintro e w' ⟨rfl, rfl⟩
  go_wp2_with fail
  refine (isInf_above _ hb HN.out _).mono ?_
  rintro e w' ⟨rfl, rfl⟩
  go_wp2_with fail
  go_ret
  exact ⟨ret_int hv.out.symm, rfl⟩
theorem of_positive (b : Nat) (hb : b < 18446744073709551616) (hn : nanB b = false) (hv : Hid (kindN b = 4)) (i1 : infB true b = false) (i2 : infB false b = false) (k1 : (FloatKind.f64.format.order b 0 == some Ordering.lt) = false) (k2 : (FloatKind.f64.format.order b 0 == some Ordering.gt) = true) (w : World) : Calls Tryd.prog 12 #[.float .f64 b] w fun e w' => e = .returned (.int .i64 (kindN b)) ∧ w = w' := by
  have HN := Lib.hid hn
  go_enter Tryd.func12, Tryd.ntmps12
  go_wp2_with fail
  refine (isNaN_any _ hb _).mono ?_
  rintro e w' ⟨rfl, rfl⟩
  go_wp2_with fail
  refine (isInf_below _ hb HN.out _).mono ?_
  rintro e w' ⟨rfl, rfl⟩
  go_wp2_with fail
  refine (isInf_above _ hb HN.out _).mono ?_
  rintro e w' ⟨rfl, rfl⟩
  go_wp2_with fail
  go_ret
  exact ⟨ret_int hv.out.symm, rfl⟩
theorem of_minus (b : Nat) (hb : b < 18446744073709551616) (hn : nanB b = false) (hv : Hid (kindN b = 2)) (i1 : infB true b = false) (i2 : infB false b = false) (k1 : (FloatKind.f64.format.order b 0 == some Ordering.lt) = false) (k2 : (FloatKind.f64.format.order b 0 == some Ordering.gt) = false) (k3 : negB b = true) (w : World) : Calls Tryd.prog 12 #[.float .f64 b] w fun e w' => e = .returned (.int .i64 (kindN b)) ∧ w = w' := by
  have HN := Lib.hid hn
  go_enter Tryd.func12, Tryd.ntmps12
  go_wp2_with fail
  refine (isNaN_any _ hb _).mono ?_
  rintro e w' ⟨rfl, rfl⟩
  go_wp2_with fail
  refine (isInf_below _ hb HN.out _).mono ?_
  rintro e w' ⟨rfl, rfl⟩
  go_wp2_with fail
  refine (isInf_above _ hb HN.out _).mono ?_
  rintro e w' ⟨rfl, rfl⟩
  go_wp2_with fail
  refine (signbit_any _ hb _).mono ?_
  rintro e w' ⟨rfl, rfl⟩
  go_wp2_with fail
  go_ret
  exact ⟨ret_int hv.out.symm, rfl⟩
theorem of_nought (b : Nat) (hb : b < 18446744073709551616) (hn : nanB b = false) (hv : Hid (kindN b = 3)) (i1 : infB true b = false) (i2 : infB false b = false) (k1 : (FloatKind.f64.format.order b 0 == some Ordering.lt) = false) (k2 : (FloatKind.f64.format.order b 0 == some Ordering.gt) = false) (k3 : negB b = false) (w : World) : Calls Tryd.prog 12 #[.float .f64 b] w fun e w' => e = .returned (.int .i64 (kindN b)) ∧ w = w' := by
  have HN := Lib.hid hn
  go_enter Tryd.func12, Tryd.ntmps12
  go_wp2_with fail
  refine (isNaN_any _ hb _).mono ?_
  rintro e w' ⟨rfl, rfl⟩
  go_wp2_with fail
  refine (isInf_below _ hb HN.out _).mono ?_
  rintro e w' ⟨rfl, rfl⟩
  go_wp2_with fail
  refine (isInf_above _ hb HN.out _).mono ?_
  rintro e w' ⟨rfl, rfl⟩
  go_wp2_with fail
  refine (signbit_any _ hb _).mono ?_
  rintro e w' ⟨rfl, rfl⟩
  go_wp2_with fail
  go_ret
  exact ⟨ret_int hv.out.symm, rfl⟩

theorem of_any (b : Nat) (hb : b < 18446744073709551616) (w : World) : Calls Tryd.prog 12 #[.float .f64 b] w fun e w' => e = .returned (.int .i64 (kindN b)) ∧ w = w' := by
  cases hn : nanB b with
  | true => exact of_none b hb hn (Lib.hid ((kind_six b).2 hn)) w
  | false =>
    have h0 := lt_zero b hb hn
    have h1 := gt_zero b hb hn
    have hn' : rung b ≤ 9218868437227405312 := by simpa [nanB] using hn
    by_cases c1 : rung b = 9218868437227405312
    · by_cases c2 : 9223372036854775808 ≤ b
      · exact of_below b hb hn (Lib.hid (by unfold kindN; rw [if_neg (by omega), if_pos c1, if_pos c2])) (by simp [infB, negB, c1, c2]) w
      · exact of_above b hb hn (Lib.hid (by unfold kindN; rw [if_neg (by omega), if_pos c1, if_neg c2])) (by simp [infB, negB, c2]) (by simp [infB, negB, c1, c2]) w
    · have i1 : infB true b = false := by simp [infB, c1]
      have i2 : infB false b = false := by simp [infB, c1]
      by_cases c2 : 9223372036854775808 ≤ b
      all_goals by_cases c3 : rung b = 0
      · exact of_minus b hb hn (Lib.hid (by unfold kindN; rw [if_neg (by omega), if_neg c1, if_pos c3, if_pos c2])) i1 i2 (by rw [h0]; unfold key; simp [c2, c3]) (by rw [h1]; unfold key; simp [c2, c3]) (by simp [negB, c2]) w
      · exact of_negative b hb hn (Lib.hid (by unfold kindN; rw [if_neg (by omega), if_neg c1, if_neg c3, if_pos c2])) i1 i2 (by rw [h0]; unfold key; simp [c2]; omega) w
      · exact of_nought b hb hn (Lib.hid (by unfold kindN; rw [if_neg (by omega), if_neg c1, if_pos c3, if_neg c2])) i1 i2 (by rw [h0]; unfold key; simp [c2, c3]) (by rw [h1]; unfold key; simp [c2, c3]) (by simp [negB, c2]) w
      · exact of_positive b hb hn (Lib.hid (by unfold kindN; rw [if_neg (by omega), if_neg c1, if_neg c3, if_neg c2])) i1 i2 (by rw [h0]; unfold key; simp [c2]) (by rw [h1]; unfold key; simp [c2]; omega) w
end Go.Proofs.YtepnhddileadmaaDoor
