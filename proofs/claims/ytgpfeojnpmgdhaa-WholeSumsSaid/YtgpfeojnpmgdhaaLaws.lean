/- The laws' walks. -/
import Derived.Test.YtgpfeojnpmgdhaaAwake
import Derived.Test.YtgpfeojnpmgdhaaSum
import Derived.Test.YtgpfeojnpmgdhaaRText
import Derived.Deep.QuietTactic
import Derived.BigQuiet
import Derived.WalkSmall
namespace Go.Proofs.Ytgpfeojnpmgdhaa
open Go.RowKit

theorem wholeAdds_walk (a b : Int) (ha : Fits a) (hb : Fits b) (w : World) : Calls Try.prog 3 #[.int .i64 a, .int .i64 b] w fun e w' => e = .returned (.bool true) ∧ Below w.heap.size w w' := by
  have HA := Lib.hid ha; clear ha
  have HB := Lib.hid hb; clear hb
  go_enter Try.func3, Try.ntmps3
  go_wp2_with (go_at_call 8; refine (awake _).mono ?_; rintro e w1 ⟨rfl, hb1⟩)
  go_wp2_with (go_at_call 9; refine (add_any _ _ HA.out HB.out _).mono ?_; rintro e w' ⟨rfl, rfl⟩)
  go_wp2_with (go_at_call 10; refine (radd_any _ _ HA.out HB.out _).mono ?_; rintro e w' ⟨rfl, rfl⟩)
  go_ret
  exact ⟨rfl, hb1⟩

theorem wholeMuls_walk (a b : Int) (ha : Fits a) (hb : Fits b) (w : World) : Calls Try.prog 4 #[.int .i64 a, .int .i64 b] w fun e w' => e = .returned (.bool true) ∧ Below w.heap.size w w' := by
  have HA := Lib.hid ha; clear ha
  have HB := Lib.hid hb; clear hb
  go_enter Try.func4, Try.ntmps4
  go_wp2_with (go_at_call 8; refine (awake _).mono ?_; rintro e w1 ⟨rfl, hb1⟩)
  go_wp2_with (go_at_call 11; refine (mul_any _ _ HA.out HB.out _).mono ?_; rintro e w' ⟨rfl, rfl⟩)
  go_wp2_with (go_at_call 12; refine (rmul_any _ _ HA.out HB.out _).mono ?_; rintro e w' ⟨rfl, rfl⟩)
  go_ret
  exact ⟨rfl, hb1⟩

theorem wholeParses_walk (s : ByteArray) (hs : s.size ≤ maxLen) (w : World) : Calls Try.prog 7 #[.string s] w fun e w' => e = .returned (.bool true) ∧ Below w.heap.size w w' := by
  have HS := Lib.hid hs; clear hs
  go_enter Try.func7, Try.ntmps7
  go_wp2_with (go_at_call 8; refine (awake _).mono ?_; rintro e w1 ⟨rfl, hb1⟩)
  go_wp2_with (go_at_call 15; refine (parse_any _ HS.out _).mono ?_; rintro e w2 ⟨rfl, hb2⟩)
  go_wp2_with (go_at_call 16; refine (rparse_any _ HS.out _).mono ?_; rintro e w' ⟨rfl, rfl⟩)
  go_ret
  exact ⟨rfl, hb1.trans (hb2.mono hb1.size)⟩

theorem wholeCeils_walk (a b : Int) (ha : Fits a) (hb : Fits b) (w : World) : Calls Try.prog 6 #[.int .i64 a, .int .i64 b] w fun e w' => e = .returned (.bool true) ∧ Below w.heap.size w w' := by
  have HA := Lib.hid ha
  have HB := Lib.hid hb
  unfold Fits at ha hb
  obtain ⟨a1, a2⟩ := ha
  obtain ⟨b1, b2⟩ := hb
  by_cases c1 : a < 0
  · have hv : ceilV a b = 0 := if_pos (.inl c1)
    go_enter Try.func6, Try.ntmps6
    go_wp2_with (go_at_call 8; refine (awake _).mono ?_; rintro e w1 ⟨rfl, hb1⟩)
    go_wp2_with (go_at_call 14; refine (ceil_any _ _ HA.out HB.out _).mono ?_; rintro e w' ⟨rfl, rfl⟩)
    go_ret
    exact ⟨rfl, hb1⟩
  · by_cases c2 : b < 1
    · have hv : ceilV a b = 0 := if_pos (.inr c2)
      go_enter Try.func6, Try.ntmps6
      go_wp2_with (go_at_call 8; refine (awake _).mono ?_; rintro e w1 ⟨rfl, hb1⟩)
      go_wp2_with (go_at_call 14; refine (ceil_any _ _ HA.out HB.out _).mono ?_; rintro e w' ⟨rfl, rfl⟩)
      go_ret
      exact ⟨rfl, hb1⟩
    · have p1 : 0 ≤ a := by omega
      have p2 : 1 ≤ b := by omega
      have q1 := IntWalk.tdiv_le a b p1 p2
      have hE := Lib.hid (Int.mul_ediv_add_emod a b)
      obtain ⟨Q, hQ⟩ : ∃ Q, Q = a / b := ⟨_, rfl⟩
      obtain ⟨R, hR⟩ : ∃ R, R = a % b := ⟨_, rfl⟩
      rw [← hQ] at q1
      have eQ := hQ.symm
      have eR := hR.symm
      obtain ⟨q2, q3⟩ := q1
      by_cases hr : R = 0
      · have hv : ceilV a b = Q := by unfold ceilV; rw [if_neg (by omega), if_pos (by omega), hQ]
        subst hr
        have d1 : decide (0 ≤ Q) = true := by simpa using q2
        have d2 : decide (Q ≤ a) = true := by simpa using q3
        clear hQ hR
        go_enter Try.func6, Try.ntmps6
        go_wp2_with (go_at_call 8; refine (awake _).mono ?_; rintro e w1 ⟨rfl, hb1⟩)
        go_wp2_with (go_at_call 14; refine (ceil_any _ _ HA.out HB.out _).mono ?_; rintro e w' ⟨rfl, rfl⟩)
        go_quiet (fail)
        go_wp2
        go_ret
        exact ⟨rfl, below_drewN hb1 _⟩
      · have hv : ceilV a b = Q + 1 := by unfold ceilV; rw [if_neg (by omega), if_neg (by omega), hQ]
        have hQa : Q + 1 ≤ a := by
          have h2 : b ≠ 1 := by intro h; subst h; omega
          have h4 : Q ≤ a / 2 := by
            have h5 : Q * b ≤ a := by rw [hQ]; exact Int.ediv_mul_le a (by omega)
            have h6 : Q * 2 ≤ Q * b := Int.mul_le_mul_of_nonneg_left (by omega) q2
            omega
          by_cases ha0 : a = 0
          · subst ha0; simp at hR; exact absurd hR hr
          · omega
        have hR0 : (R == 0) = false := by simpa using hr
        obtain ⟨C, hC⟩ : ∃ C, C = Q + 1 := ⟨_, rfl⟩
        rw [← hC] at hv
        have p0 : 0 ≤ C := by omega
        have p9 : C ≤ 9223372036854775807 := by omega
        have d1 : decide (0 ≤ C) = true := by simpa using p0
        have d2 : decide (C ≤ a) = true := by simp; omega
        have d3 : decide (Q ≤ C) = true := by simp; omega
        have d4 : decide (C - Q ≤ 1) = true := by simp; omega
        have d5 : (C == Q) = false := by simp; omega
        clear hC hQa
        clear hQ hR hr
        go_enter Try.func6, Try.ntmps6
        go_wp2_with (go_at_call 8; refine (awake _).mono ?_; rintro e w1 ⟨rfl, hb1⟩)
        go_wp2_with (go_at_call 14; refine (ceil_any _ _ HA.out HB.out _).mono ?_; rintro e w' ⟨rfl, rfl⟩)
        go_quiet (fail)
        go_wp2
        go_ret
        exact ⟨rfl, below_drewN hb1 _⟩
end Go.Proofs.Ytgpfeojnpmgdhaa
