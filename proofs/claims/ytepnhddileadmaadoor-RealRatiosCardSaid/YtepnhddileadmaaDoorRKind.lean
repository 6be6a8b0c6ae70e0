/- What the reference's Kind, Place and Same answer. -/
import Derived.Test.YtepnhddileadmaaDoorMath
namespace Go.Proofs.YtepnhddileadmaaDoor
open Go.RowKit
open Ieee (double)

theorem and_mask (x n : Nat) (hx : x < 18446744073709551616) (hn : 2 ^ n - 1 < 18446744073709551616) : bits .and .u64 (x : Int) ((2 ^ n - 1 : Nat) : Int) = ((x % 2 ^ n : Nat) : Int) := by
  show IntKind.u64.wrap ((BitVec.ofInt 64 (x : Int) &&& BitVec.ofInt 64 ((2 ^ n - 1 : Nat) : Int)).toNat : Int) = _
  have h : ∀ y : Nat, y < 18446744073709551616 → (BitVec.ofInt 64 (y : Int)).toNat = y := fun y hy => by rw [BitVec.toNat_ofInt]; omega
  rw [BitVec.toNat_and, h x hx, h _ hn, Nat.and_two_pow_sub_one_eq_mod]
  have h2 : x % 2 ^ n ≤ x := Nat.mod_le _ _
  generalize x % 2 ^ n = y at *
  show (y : Int) % 18446744073709551616 = _
  omega
theorem and_exp (b : Nat) (hb : b < 18446744073709551616) : bits .and .u64 ((b : Int) / 4503599627370496) 2047 = ((b / 4503599627370496 % 2048 : Nat) : Int) := by
  have h := and_mask (b / 4503599627370496) 11 (by omega) (by decide)
  rw [show (2 : Nat) ^ 11 = 2048 by decide] at h
  exact h
theorem and_part (b : Nat) (hb : b < 18446744073709551616) : bits .and .u64 (b : Int) 4503599627370495 = ((b % 4503599627370496 : Nat) : Int) := by
  have h := and_mask b 52 hb (by decide)
  rw [show (2 : Nat) ^ 52 = 4503599627370496 by decide] at h
  exact h
theorem and_rung (b : Nat) (hb : b < 18446744073709551616) : bits .and .u64 (b : Int) 9223372036854775807 = ((rung b : Nat) : Int) := by
  have h := and_mask b 63 hb (by decide)
  rw [show (2 : Nat) ^ 63 = 9223372036854775808 by decide] at h
  exact h
theorem nat_eq {x : Nat} {k : Nat} (h : x = k) : ((x : Int) == (k : Int)) = true := by simp [h]
theorem nat_ne {x : Nat} {k : Nat} (h : ¬ x = k) : ((x : Int) == (k : Int)) = false := by simp; omega
theorem nat_eq' {x : Nat} {k : Nat} (h : x = k) : ((x : Int) != (k : Int)) = false := by simp [h]
theorem nat_ne' {x : Nat} {k : Nat} (h : ¬ x = k) : ((x : Int) != (k : Int)) = true := by simp; omega

theorem rkind_any (b : Nat) (hb : b < 18446744073709551616) (w : World) : Calls Tryd.prog 14 #[.float .f64 b] w fun e w' => e = .returned (.int .i64 (kindN b)) ∧ w = w' := by
  have h1 := bits_run b
  have hE := and_exp b hb
  have hF := and_part b hb
  obtain ⟨E, eE⟩ : ∃ E, E = b / 4503599627370496 % 2048 := ⟨_, rfl⟩
  obtain ⟨F, eF⟩ : ∃ F, F = b % 4503599627370496 := ⟨_, rfl⟩
  have hr : rung b = 4503599627370496 * E + F := by unfold rung; omega
  have hs : ((b : Int) / 9223372036854775808 == 1) = decide (9223372036854775808 ≤ b) := by
    rw [Bool.eq_iff_iff]; simp; omega
  rw [← eE] at hE
  rw [← eF] at hF
  have hF2 : F < 4503599627370496 := by omega
  have HR := Lib.hid hr
  clear eE eF hr
  by_cases c1 : E = 2047
  · have e1 : ((E : Int) == 2047) = true := nat_eq (k := 2047) c1
    by_cases c2 : F = 0
    · have e2 : ((F : Int) != 0) = false := nat_eq' (k := 0) c2
      by_cases c3 : 9223372036854775808 ≤ b
      · rw [decide_eq_true c3] at hs
        have hv : Hid (kindN b = 0) := Lib.hid (by unfold kindN; rw [HR.out, if_neg (by omega), if_pos (by omega), if_pos c3])
        clear c1 c2 c3 hF2
        go_enter Tryd.func14, Tryd.ntmps14
        go_wp2_with fail
        go_ret
        exact ⟨ret_int hv.out.symm, rfl⟩
      · rw [decide_eq_false c3] at hs
        have hv : Hid (kindN b = 5) := Lib.hid (by unfold kindN; rw [HR.out, if_neg (by omega), if_pos (by omega), if_neg c3])
        clear c1 c2 c3 hF2
        go_enter Tryd.func14, Tryd.ntmps14
        go_wp2_with fail
        go_ret
        exact ⟨ret_int hv.out.symm, rfl⟩
    · have e2 : ((F : Int) != 0) = true := nat_ne' (k := 0) c2
      have hv : Hid (kindN b = 6) := Lib.hid (by unfold kindN; rw [HR.out, if_pos (by omega)])
      clear c1 c2 hF2 hs
      go_enter Tryd.func14, Tryd.ntmps14
      go_wp2_with fail
      go_ret
      exact ⟨ret_int hv.out.symm, rfl⟩
  · have e1 : ((E : Int) == 2047) = false := nat_ne (k := 2047) c1
    have l1 : E < 2048 := by have := HR.out; have := rung_lt b; omega
    by_cases c2 : E = 0
    · have e2 : ((E : Int) == 0) = true := nat_eq (k := 0) c2
      by_cases c4 : F = 0
      · have e3 : ((F : Int) == 0) = true := nat_eq (k := 0) c4
        by_cases c3 : 9223372036854775808 ≤ b
        · rw [decide_eq_true c3] at hs
          have hv : Hid (kindN b = 2) := Lib.hid (by unfold kindN; rw [HR.out, if_neg (by omega), if_neg (by omega), if_pos (by omega), if_pos c3])
          clear c1 c2 c3 c4 hF2 l1
          go_enter Tryd.func14, Tryd.ntmps14
          go_wp2_with fail
          go_ret
          exact ⟨ret_int hv.out.symm, rfl⟩
        · rw [decide_eq_false c3] at hs
          have hv : Hid (kindN b = 3) := Lib.hid (by unfold kindN; rw [HR.out, if_neg (by omega), if_neg (by omega), if_pos (by omega), if_neg c3])
          clear c1 c2 c3 c4 hF2 l1
          go_enter Tryd.func14, Tryd.ntmps14
          go_wp2_with fail
          go_ret
          exact ⟨ret_int hv.out.symm, rfl⟩
      · have e3 : ((F : Int) == 0) = false := nat_ne (k := 0) c4
        by_cases c3 : 9223372036854775808 ≤ b
        · rw [decide_eq_true c3] at hs
          have hv : Hid (kindN b = 1) := Lib.hid (by unfold kindN; rw [HR.out, if_neg (by omega), if_neg (by omega), if_neg (by omega), if_pos c3])
          clear c1 c2 c3 c4 hF2 l1
          go_enter Tryd.func14, Tryd.ntmps14
          go_wp2_with fail
          go_ret
          exact ⟨ret_int hv.out.symm, rfl⟩
        · rw [decide_eq_false c3] at hs
          have hv : Hid (kindN b = 4) := Lib.hid (by unfold kindN; rw [HR.out, if_neg (by omega), if_neg (by omega), if_neg (by omega), if_neg c3])
          clear c1 c2 c3 c4 hF2 l1
          go_enter Tryd.func14, Tryd.ntmps14
          go_wp2_with fail
          go_ret
          exact ⟨ret_int hv.out.symm, rfl⟩
    · have e2 : ((E : Int) == 0) = false := nat_ne (k := 0) c2
      by_cases c3 : 9223372036854775808 ≤ b
      · rw [decide_eq_true c3] at hs
        have hv : Hid (kindN b = 1) := Lib.hid (by unfold kindN; rw [HR.out, if_neg (by omega), if_neg (by omega), if_neg (by omega), if_pos c3])
        clear c1 c2 c3 hF2 l1
        go_enter Tryd.func14, Tryd.ntmps14
        go_wp2_with fail
        go_ret
        exact ⟨ret_int hv.out.symm, rfl⟩
      · rw [decide_eq_false c3] at hs
        have hv : Hid (kindN b = 4) := Lib.hid (by unfold kindN; rw [HR.out, if_neg (by omega), if_neg (by omega), if_neg (by omega), if_neg c3])
        clear c1 c2 c3 hF2 l1
        go_enter Tryd.func14, Tryd.ntmps14
        go_wp2_with fail
        go_ret
        exact ⟨ret_int hv.out.symm, rfl⟩

theorem rplace_any (b : Nat) (hb : b < 18446744073709551616) (w : World) : Calls Tryd.prog 16 #[.float .f64 b] w fun e w' => e = .returned (.int .i64 (placeV b)) ∧ w = w' := by
  have h1 := bits_run b
  have hR := and_rung b hb
  have hl := rung_lt b
  by_cases c1 : 9218868437227405312 < rung b
  · have hv : Hid (placeV b = 9223372036854775807) := Lib.hid (by unfold placeV; rw [if_pos c1])
    have hk : (kindN b == 6) = true := by unfold kindN; rw [if_pos c1]; rfl
    clear c1
    go_enter Tryd.func16, Tryd.ntmps16
    go_wp2_with (go_at_call 14; refine (rkind_any _ hb _).mono ?_; rintro e w' ⟨rfl, rfl⟩)
    go_ret
    exact ⟨ret_int hv.out.symm, rfl⟩
  · have hk : (kindN b == 6) = false := by
      rw [beq_eq_false_iff_ne]
      intro h
      have := (kind_six b).1 h
      simp [nanB] at this
      omega
    by_cases c3 : 9223372036854775808 ≤ b
    · have hs : ((b : Int) / 9223372036854775808 == 1) = true := by simp; omega
      have hv : Hid (placeV b = -(rung b : Int) - 1) := Lib.hid (by unfold placeV; rw [if_neg c1, if_pos c3])
      clear c1 c3
      go_enter Tryd.func16, Tryd.ntmps16
      go_wp2_with (go_at_call 14; refine (rkind_any _ hb _).mono ?_; rintro e w' ⟨rfl, rfl⟩)
      go_ret
      exact ⟨ret_int hv.out.symm, rfl⟩
    · have hs : ((b : Int) / 9223372036854775808 == 1) = false := by simp; omega
      have hv : Hid (placeV b = (b : Int)) := Lib.hid (by unfold placeV; rw [if_neg c1, if_neg c3, rung_pos (by omega)])
      have hb2 : b < 9223372036854775808 := by omega
      clear c1 c3
      go_enter Tryd.func16, Tryd.ntmps16
      go_wp2_with (go_at_call 14; refine (rkind_any _ hb _).mono ?_; rintro e w' ⟨rfl, rfl⟩)
      go_ret
      exact ⟨ret_int hv.out.symm, rfl⟩

theorem rsame_any (b c : Nat) (hb : b < 18446744073709551616) (hc : c < 18446744073709551616) (w : World) : Calls Tryd.prog 18 #[.float .f64 b, .float .f64 c] w fun e w' => e = .returned (.bool (placeV b == placeV c)) ∧ w = w' := by
  go_enter Tryd.func18, Tryd.ntmps18
  go_wp2_with fail
  refine (rplace_any _ hb _).mono ?_
  rintro e w' ⟨rfl, rfl⟩
  go_wp2_with fail
  refine (rplace_any _ hc _).mono ?_
  rintro e w' ⟨rfl, rfl⟩
  go_wp2_with fail
  go_ret
  exact ⟨rfl, rfl⟩
end Go.Proofs.YtepnhddileadmaaDoor
