/- What Add, Mul and Ceil of package whole, and Add and Mul of the reference, answer. -/
import Derived.Test.YtgpfeojnpmgdhaaRows
import Derived.Test.YtgpfeojnpmgdhaaPlain
import Derived.WalkKit
import Derived.Lib.Hide
namespace Go.Proofs.Ytgpfeojnpmgdhaa
open Go.RowKit

theorem add_any (a b : Int) (ha : Fits a) (hb : Fits b) (w : World) : Calls Try.prog 9 #[.int .i64 a, .int .i64 b] w fun e w' => e = .returned (.tuple #[.int .i64 (fitV (a + b)), .bool (fitOk (a + b))]) ∧ w = w' := by
  unfold Fits at ha hb
  obtain ⟨a1, a2⟩ := ha
  obtain ⟨b1, b2⟩ := hb
  by_cases hf : Fits (a + b)
  · have hv := Lib.hid (fitV_yes hf)
    have ho := Lib.hid (fitOk_yes hf)
    unfold Fits at hf
    obtain ⟨f1, f2⟩ := hf
    by_cases c1 : a < 0
    all_goals by_cases c2 : b < 0
    all_goals by_cases c3 : a + b < 0
    all_goals
      first
      | omega
      | (go_enter Try.func9, Try.ntmps9
         go_wp2
         go_ret2
         exact ⟨ret_pair hv.out.symm ho.out.symm, rfl⟩)
  · have hv := Lib.hid (fitV_no hf)
    have ho := Lib.hid (fitOk_no hf)
    unfold Fits at hf
    by_cases c1 : a < 0
    all_goals by_cases c2 : b < 0
    all_goals
      first
      | omega
      | (first
         | have c3 : decide (wrap64 (a + b) < 0) = false := by (rw [decide_eq_false_iff_not]; unfold wrap64; omega)
         | have c3 : decide (wrap64 (a + b) < 0) = true := by (rw [decide_eq_true_eq]; unfold wrap64; omega)
         clear hf
         go_enter Try.func9, Try.ntmps9
         go_wp2
         go_ret2
         exact ⟨ret_pair hv.out.symm ho.out.symm, rfl⟩)

theorem radd_any (a b : Int) (ha : Fits a) (hb : Fits b) (w : World) : Calls Try.prog 10 #[.int .i64 a, .int .i64 b] w fun e w' => e = .returned (.tuple #[.int .i64 (fitV (a + b)), .bool (fitOk (a + b))]) ∧ w = w' := by
  unfold Fits at ha hb
  obtain ⟨a1, a2⟩ := ha
  obtain ⟨b1, b2⟩ := hb
  have hand := and32
  by_cases hf : Fits (a + b)
  · have hv := Lib.hid (fitV_yes hf)
    have ho := Lib.hid (fitOk_yes hf)
    unfold Fits at hf
    obtain ⟨f1, f2⟩ := hf
    have c1 : -2147483648 ≤ a / 4294967296 + b / 4294967296 + (a % 4294967296 + b % 4294967296) / 4294967296 := by omega
    have c2 : a / 4294967296 + b / 4294967296 + (a % 4294967296 + b % 4294967296) / 4294967296 < 2147483648 := by omega
    have hs : Hid (((a / 4294967296 + b / 4294967296 + (a % 4294967296 + b % 4294967296) / 4294967296) * 4294967296 + (a + b) % 4294967296) = a + b) := Lib.hid (by omega)
    go_enter Try.func10, Try.ntmps10
    go_wp2
    go_ret2
    exact ⟨ret_pair (by rw [hs.out]; exact hv.out.symm) ho.out.symm, rfl⟩
  · have hv := Lib.hid (fitV_no hf)
    have ho := Lib.hid (fitOk_no hf)
    unfold Fits at hf
    by_cases c0 : a < 0
    · have c1 : a / 4294967296 + b / 4294967296 + (a % 4294967296 + b % 4294967296) / 4294967296 < -2147483648 := by omega
      clear hf
      go_enter Try.func10, Try.ntmps10
      go_wp2
      go_ret2
      exact ⟨ret_pair hv.out.symm ho.out.symm, rfl⟩
    · have c1 : 2147483648 ≤ a / 4294967296 + b / 4294967296 + (a % 4294967296 + b % 4294967296) / 4294967296 := by omega
      clear hf
      go_enter Try.func10, Try.ntmps10
      go_wp2
      go_ret2
      exact ⟨ret_pair hv.out.symm ho.out.symm, rfl⟩

theorem bne_false {x y : Int} (h : x = y) : (x != y) = false := by simp [h]
theorem bne_true {x y : Int} (h : ¬ x = y) : (x != y) = true := by simp [h]
theorem beq_true {x y : Int} (h : x = y) : (x == y) = true := by simp [h]
theorem beq_false {x y : Int} (h : ¬ x = y) : (x == y) = false := by simp [h]

theorem mul_any (a b : Int) (ha : Fits a) (hb : Fits b) (w : World) : Calls Try.prog 11 #[.int .i64 a, .int .i64 b] w fun e w' => e = .returned (.tuple #[.int .i64 (fitV (a * b)), .bool (fitOk (a * b))]) ∧ w = w' := by
  by_cases a0 : a = 0
  · subst a0
    have hv : Hid (fitV (0 * b) = 0) := Lib.hid (by rw [Int.zero_mul]; exact fitV_yes fits_zero)
    have ho : Hid (fitOk (0 * b) = true) := Lib.hid (by rw [Int.zero_mul]; exact fitOk_yes fits_zero)
    go_enter Try.func11, Try.ntmps11
    go_wp2
    go_ret2
    exact ⟨ret_pair hv.out.symm ho.out.symm, rfl⟩
  · have a1 := beq_false a0
    by_cases b0 : b = 0
    · subst b0
      have hv : Hid (fitV (a * 0) = 0) := Lib.hid (by rw [Int.mul_zero]; exact fitV_yes fits_zero)
      have ho : Hid (fitOk (a * 0) = true) := Lib.hid (by rw [Int.mul_zero]; exact fitOk_yes fits_zero)
      clear a0
      go_enter Try.func11, Try.ntmps11
      go_wp2
      go_ret2
      exact ⟨ret_pair hv.out.symm ho.out.symm, rfl⟩
    · have b1 := beq_false b0
      by_cases hf : Fits (a * b)
      · have hv := Lib.hid (fitV_yes hf)
        have ho := Lib.hid (fitOk_yes hf)
        have hw := Lib.hid (wrap_of_fits hf)
        obtain ⟨q1, q2⟩ := mul_yes a b a0 b0 ha hf
        clear a0 hf ha hb
        go_enter Try.func11, Try.ntmps11
        go_wp2
        go_ret2
        exact ⟨ret_pair (by rw [hv.out, hw.out]) ho.out.symm, rfl⟩
      · have hv := Lib.hid (fitV_no hf)
        have ho := Lib.hid (fitOk_no hf)
        by_cases hq : wrap64 ((wrap64 (a * b)).tdiv b) = a
        · have q2 := mul_no a b b0 ha hb hf hq
          clear a0 hf ha hb
          go_enter Try.func11, Try.ntmps11
          go_wp2
          go_ret2
          exact ⟨ret_pair hv.out.symm ho.out.symm, rfl⟩
        · clear a0 hf ha hb
          go_enter Try.func11, Try.ntmps11
          go_wp2
          go_ret2
          exact ⟨ret_pair hv.out.symm ho.out.symm, rfl⟩

theorem rmul_any (a b : Int) (ha : Fits a) (hb : Fits b) (w : World) : Calls Try.prog 12 #[.int .i64 a, .int .i64 b] w fun e w' => e = .returned (.tuple #[.int .i64 (fitV (a * b)), .bool (fitOk (a * b))]) ∧ w = w' := by
  by_cases a0 : a = 0
  · subst a0
    have hv : Hid (fitV (0 * b) = 0) := Lib.hid (by rw [Int.zero_mul]; exact fitV_yes fits_zero)
    have ho : Hid (fitOk (0 * b) = true) := Lib.hid (by rw [Int.zero_mul]; exact fitOk_yes fits_zero)
    go_enter Try.func12, Try.ntmps12
    go_wp2
    go_ret2
    exact ⟨ret_pair hv.out.symm ho.out.symm, rfl⟩
  · have a1 := beq_false a0
    by_cases b0 : b = 0
    · subst b0
      have hv : Hid (fitV (a * 0) = 0) := Lib.hid (by rw [Int.mul_zero]; exact fitV_yes fits_zero)
      have ho : Hid (fitOk (a * 0) = true) := Lib.hid (by rw [Int.mul_zero]; exact fitOk_yes fits_zero)
      clear a0
      go_enter Try.func12, Try.ntmps12
      go_wp2
      go_ret2
      exact ⟨ret_pair hv.out.symm ho.out.symm, rfl⟩
    · have b1 := beq_false b0
      by_cases am : a = -1
      · subst am
        by_cases bl : b = -9223372036854775808
        · subst bl
          have hv := Lib.hid (fitV_no not_fits_edge')
          have ho := Lib.hid (fitOk_no not_fits_edge')
          go_enter Try.func12, Try.ntmps12
          go_wp2
          go_ret2
          exact ⟨ret_pair hv.out.symm ho.out.symm, rfl⟩
        · have hq := neg_back b hb b0 bl
          have hf : Fits (-1 * b) := by unfold Fits at hb ⊢; omega
          have hv := Lib.hid (fitV_yes hf)
          have ho := Lib.hid (fitOk_yes hf)
          have hw : Hid (wrap64 (-b) = -1 * b) := Lib.hid (by unfold Fits at hb; rw [IntWalk.wrap64_in (-b) (by omega)]; omega)
          have bl1 := beq_false bl
          by_cases bm : b = -1
          · subst bm
            clear hf hb bl bl1
            go_enter Try.func12, Try.ntmps12
            go_wp2
            go_ret2
            exact ⟨ret_pair hv.out.symm ho.out.symm, rfl⟩
          · have bm1 := beq_false bm
            clear hf hb bl
            go_enter Try.func12, Try.ntmps12
            go_wp2
            go_ret2
            exact ⟨ret_pair (by rw [hv.out, hw.out]) ho.out.symm, rfl⟩
      · have am1 := beq_false am
        by_cases bm : b = -1
        · subst bm
          by_cases al : a = -9223372036854775808
          · subst al
            have hv := Lib.hid (fitV_no not_fits_edge)
            have ho := Lib.hid (fitOk_no not_fits_edge)
            clear am am1 a0 a1
            go_enter Try.func12, Try.ntmps12
            go_wp2
            go_ret2
            exact ⟨ret_pair hv.out.symm ho.out.symm, rfl⟩
          · have hq := neg_neg_back a ha
            have hf : Fits (a * -1) := by unfold Fits at ha ⊢; omega
            have hv := Lib.hid (fitV_yes hf)
            have ho := Lib.hid (fitOk_yes hf)
            have hw : Hid (wrap64 (-a) = a * -1) := Lib.hid (by unfold Fits at ha; rw [IntWalk.wrap64_in (-a) (by omega)]; omega)
            have al1 := beq_false al
            clear hf ha hb a0 al am b0 b1
            go_enter Try.func12, Try.ntmps12
            go_wp2
            go_ret2
            exact ⟨ret_pair (by rw [hv.out, hw.out]) ho.out.symm, rfl⟩
        · have bm1 := beq_false bm
          by_cases hf : Fits (a * b)
          · have hv := Lib.hid (fitV_yes hf)
            have ho := Lib.hid (fitOk_yes hf)
            have hw := Lib.hid (wrap_of_fits hf)
            have q1 := (mul_yes a b a0 b0 ha hf).1
            clear a0 hf ha hb am bm
            go_enter Try.func12, Try.ntmps12
            go_wp2
            go_ret2
            exact ⟨ret_pair (by rw [hv.out, hw.out]) ho.out.symm, rfl⟩
          · have hv := Lib.hid (fitV_no hf)
            have ho := Lib.hid (fitOk_no hf)
            have hq : (wrap64 ((wrap64 (a * b)).tdiv b) != a) = true := bne_true fun h => bm (mul_back a b ha hb b0 hf h).1
            clear a0 hf ha hb am bm
            go_enter Try.func12, Try.ntmps12
            go_wp2
            go_ret2
            exact ⟨ret_pair hv.out.symm ho.out.symm, rfl⟩

/-- Ceil: rounded up. -/
def ceilV (a b : Int) : Int := if a < 0 ∨ b < 1 then 0 else if a % b = 0 then a / b else a / b + 1
theorem ceil_any (a b : Int) (ha : Fits a) (hb : Fits b) (w : World) : Calls Try.prog 14 #[.int .i64 a, .int .i64 b] w fun e w' => e = .returned (.int .i64 (ceilV a b)) ∧ w = w' := by
  unfold Fits at ha hb
  obtain ⟨a1, a2⟩ := ha
  obtain ⟨b1, b2⟩ := hb
  by_cases c1 : a < 0
  · have hv : Hid (ceilV a b = 0) := Lib.hid (if_pos (.inl c1))
    go_enter Try.func14, Try.ntmps14
    go_wp2
    go_ret
    exact ⟨ret_int hv.out.symm, rfl⟩
  · by_cases c2 : b < 1
    · have hv : Hid (ceilV a b = 0) := Lib.hid (if_pos (.inr c2))
      go_enter Try.func14, Try.ntmps14
      go_wp2
      go_ret
      exact ⟨ret_int hv.out.symm, rfl⟩
    · have p1 : 0 ≤ a := by omega
      have p2 : 1 ≤ b := by omega
      have q1 := IntWalk.tdiv_le a b p1 p2
      by_cases hr : a % b = 0
      · have hv : Hid (ceilV a b = a / b) := Lib.hid (by unfold ceilV; rw [if_neg (by omega), if_pos hr])
        have hr1 := beq_true hr
        clear hr
        go_enter Try.func14, Try.ntmps14
        go_wp2
        go_ret
        exact ⟨ret_int hv.out.symm, rfl⟩
      · have hv : Hid (ceilV a b = a / b + 1) := Lib.hid (by unfold ceilV; rw [if_neg (by omega), if_neg hr])
        have hr1 := beq_false hr
        have q3 : a / b < 9223372036854775807 := by
          by_cases hb1 : b = 1
          · subst hb1; exfalso; apply hr; omega
          · have : a / b ≤ a / 2 := by
              have h2 : a / b * b ≤ a := Int.ediv_mul_le a (by omega)
              have h3 : a / b * 2 ≤ a / b * b := Int.mul_le_mul_of_nonneg_left (by omega) q1.1
              omega
            omega
        clear hr
        go_enter Try.func14, Try.ntmps14
        go_wp2
        go_ret
        exact ⟨ret_int hv.out.symm, rfl⟩
end Go.Proofs.Ytgpfeojnpmgdhaa
