/- What Add, Mul and Ceil of package whole answer. -/
import Derived.Test.YtgpfeojnpmgdhaaDoorRows
import Derived.Test.YtgpfeojnpmgdhaaDoorPlain
import Derived.WalkKit
import Derived.Lib.Hide
namespace Go.Proofs.YtgpfeojnpmgdhaaDoor
open Go.RowKit

theorem bne_false {x y : Int} (h : x = y) : (x != y) = false := by simp [h]
theorem bne_true {x y : Int} (h : ¬ x = y) : (x != y) = true := by simp [h]
theorem beq_true {x y : Int} (h : x = y) : (x == y) = true := by simp [h]
theorem beq_false {x y : Int} (h : ¬ x = y) : (x == y) = false := by simp [h]

theorem add_any (a b : Int) (ha : Fits a) (hb : Fits b) (w : World) : Calls Tryd.prog 8 #[.int .i64 a, .int .i64 b] w fun e w' => e = .returned (.tuple #[.int .i64 (fitV (a + b)), .bool (fitOk (a + b))]) ∧ w = w' := by
  unfold Fits at ha hb
  obtain ⟨a1, a2⟩ := ha
  obtain ⟨b1, b2⟩ := hb
  by_cases hf : Fits (a + b)
  · have hv := Lib.hid (fitV_yes hf)
    have ho := Lib.hid (fitOk_yes hf)
    unfold Fits at hf
    obtain ⟨f1, f2⟩ := hf
    by_cases c1 : a < 0
    all_goals by_cases c2 : b < 0
    all_goals by_cases c3 : a + b < 0
    all_goals
      first
      | omega
      | (go_enter Tryd.func8, Tryd.ntmps8
         go_wp2
         go_ret2
         exact ⟨ret_pair hv.out.symm ho.out.symm, rfl⟩)
  · have hv := Lib.hid (fitV_no hf)
    have ho := Lib.hid (fitOk_no hf)
    unfold Fits at hf
    by_cases c1 : a < 0
    all_goals by_cases c2 : b < 0
    all_goals
      first
      | omega
      | (first
         | have c3 : decide (wrap64 (a + b) < 0) = false := by (rw [decide_eq_false_iff_not]; unfold wrap64; omega)
         | have c3 : decide (wrap64 (a + b) < 0) = true := by (rw [decide_eq_true_eq]; unfold wrap64; omega)
         clear hf
         go_enter Tryd.func8, Tryd.ntmps8
         go_wp2
         go_ret2
         exact ⟨ret_pair hv.out.symm ho.out.symm, rfl⟩)

theorem mul_any (a b : Int) (ha : Fits a) (hb : Fits b) (w : World) : Calls Tryd.prog 9 #[.int .i64 a, .int .i64 b] w fun e w' => e = .returned (.tuple #[.int .i64 (fitV (a * b)), .bool (fitOk (a * b))]) ∧ w = w' := by
  by_cases a0 : a = 0
  · subst a0
    have hv : Hid (fitV (0 * b) = 0) := Lib.hid (by rw [Int.zero_mul]; exact fitV_yes fits_zero)
    have ho : Hid (fitOk (0 * b) = true) := Lib.hid (by rw [Int.zero_mul]; exact fitOk_yes fits_zero)
    go_enter Tryd.func9, Tryd.ntmps9
    go_wp2
    go_ret2
    exact ⟨ret_pair hv.out.symm ho.out.symm, rfl⟩
  · have a1 := beq_false a0
    by_cases b0 : b = 0
    · subst b0
      have hv : Hid (fitV (a * 0) = 0) := Lib.hid (by rw [Int.mul_zero]; exact fitV_yes fits_zero)
      have ho : Hid (fitOk (a * 0) = true) := Lib.hid (by rw [Int.mul_zero]; exact fitOk_yes fits_zero)
      clear a0
      go_enter Tryd.func9, Tryd.ntmps9
      go_wp2
      go_ret2
      exact ⟨ret_pair hv.out.symm ho.out.symm, rfl⟩
    · have b1 := beq_false b0
      by_cases hf : Fits (a * b)
      · have hv := Lib.hid (fitV_yes hf)
        have ho := Lib.hid (fitOk_yes hf)
        have hw := Lib.hid (wrap_of_fits hf)
        obtain ⟨q1, q2⟩ := mul_yes a b a0 b0 ha hf
        clear a0 hf ha hb
        go_enter Tryd.func9, Tryd.ntmps9
        go_wp2
        go_ret2
        exact ⟨ret_pair (by rw [hv.out, hw.out]) ho.out.symm, rfl⟩
      · have hv := Lib.hid (fitV_no hf)
        have ho := Lib.hid (fitOk_no hf)
        by_cases hq : wrap64 ((wrap64 (a * b)).tdiv b) = a
        · have q2 := mul_no a b b0 ha hb hf hq
          clear a0 hf ha hb
          go_enter Tryd.func9, Tryd.ntmps9
          go_wp2
          go_ret2
          exact ⟨ret_pair hv.out.symm ho.out.symm, rfl⟩
        · clear a0 hf ha hb
          go_enter Tryd.func9, Tryd.ntmps9
          go_wp2
          go_ret2
          exact ⟨ret_pair hv.out.symm ho.out.symm, rfl⟩

/-- Ceil: rounded up. -/
def ceilV (a b : Int) : Int := if a < 0 ∨ b < 1 then 0 else if a % b = 0 then a / b else a / b + 1
theorem ceil_any (a b : Int) (ha : Fits a) (hb : Fits b) (w : World) : Calls Tryd.prog 10 #[.int .i64 a, .int .i64 b] w fun e w' => e = .returned (.int .i64 (ceilV a b)) ∧ w = w' := by
  unfold Fits at ha hb
  obtain ⟨a1, a2⟩ := ha
  obtain ⟨b1, b2⟩ := hb
  by_cases c1 : a < 0
  · have hv : Hid (ceilV a b = 0) := Lib.hid (if_pos (.inl c1))
    go_enter Tryd.func10, Tryd.ntmps10
    go_wp2
    go_ret
    exact ⟨ret_int hv.out.symm, rfl⟩
  · by_cases c2 : b < 1
    · have hv : Hid (ceilV a b = 0) := Lib.hid (if_pos (.inr c2))
      go_enter Tryd.func10, Tryd.ntmps10
      go_wp2
      go_ret
      exact ⟨ret_int hv.out.symm, rfl⟩
    · have p1 : 0 ≤ a := by omega
      have p2 : 1 ≤ b := by omega
      have q1 := IntWalk.tdiv_le a b p1 p2
      by_cases hr : a % b = 0
      · have hv : Hid (ceilV a b = a / b) := Lib.hid (by unfold ceilV; rw [if_neg (by omega), if_pos hr])
        have hr1 := beq_true hr
        clear hr
        go_enter Tryd.func10, Tryd.ntmps10
        go_wp2
        go_ret
        exact ⟨ret_int hv.out.symm, rfl⟩
      · have hv : Hid (ceilV a b = a / b + 1) := Lib.hid (by unfold ceilV; rw [if_neg (by omega), if_neg hr])
        have hr1 := beq_false hr
        have q3 : a / b < 9223372036854775807 := by
          by_cases hb1 : b = 1
          · subst hb1; exfalso; apply hr; omega
          · have : a / b ≤ a / 2 := by
              have h2 : a / b * b ≤ a := Int.ediv_mul_le a (by omega)
              have h3 : a / b * 2 ≤ a / b * b := Int.mul_le_mul_of_nonneg_left (by omega) q1.1
              omega
            omega
        clear hr
        go_enter Tryd.func10, Tryd.ntmps10
        go_wp2
        go_ret
        exact ⟨ret_int hv.out.symm, rfl⟩
end Go.Proofs.YtgpfeojnpmgdhaaDoor
