/- Plain facts on numbers of 64 bits: no Go in sight. -/
import Derived.WalkKit
namespace Go.Proofs.Ytmnbpnjakbihdaa
open Go.RowKit

theorem and32 (a : Int) : bits .and .i64 a 4294967295 = a % 4294967296 := by
  show IntKind.i64.wrap ((BitVec.ofInt 64 a &&& BitVec.ofInt 64 4294967295).toNat : Int) = _
  have h2 : (BitVec.ofInt 64 4294967295).toNat = 2 ^ 32 - 1 := by decide
  have h1 : (BitVec.ofInt 64 a).toNat = (a % 18446744073709551616).toNat := by
    rw [BitVec.toNat_ofInt]; rfl
  rw [BitVec.toNat_and, h2, h1, Nat.and_two_pow_sub_one_eq_mod, IntKind.wrap_i64]
  omega

/-- A number that int64 holds. -/
def Fits (n : Int) : Prop := -9223372036854775808 ≤ n ∧ n ≤ 9223372036854775807
instance (n : Int) : Decidable (Fits n) := inferInstanceAs (Decidable (_ ∧ _))
theorem fits_of_wf {n : Int} (h : (Lit.int .i64 n).wf = true) : Fits n := by
  simp [Lit.wf, IntKind.min, IntKind.max, IntKind.signed, IntKind.bits] at h
  unfold Fits; omega
theorem wrap_fits (n : Int) : Fits (wrap64 n) := by unfold Fits wrap64; omega
theorem wrap_of_fits {n : Int} (h : Fits n) : wrap64 n = n := IntWalk.wrap64_in n h

theorem ret_int {k : IntKind} {a b : Int} (h : a = b) : Ending.returned (.int k a) = .returned (.int k b) := by rw [h]
theorem ret_bool {p q : Bool} (h : p = q) : Ending.returned (.bool p) = .returned (.bool q) := by rw [h]
theorem ret_pair {k : IntKind} {x y : Int} {p q : Bool} (h : x = y) (g : p = q) : Ending.returned (.tuple #[.int k x, .bool p]) = .returned (.tuple #[.int k y, .bool q]) := by rw [h, g]

/-- What a sum or product answers: itself, if int64 holds it, else 0. -/
def fitV (n : Int) : Int := if Fits n then n else 0
def fitOk (n : Int) : Bool := decide (Fits n)
theorem fitV_fits (n : Int) : Fits (fitV n) := by unfold fitV; split; assumption; unfold Fits; omega
theorem fitV_yes {n : Int} (h : Fits n) : fitV n = n := if_pos h
theorem fitV_no {n : Int} (h : ¬ Fits n) : fitV n = 0 := if_neg h
theorem fitOk_yes {n : Int} (h : Fits n) : fitOk n = true := decide_eq_true h
theorem fitOk_no {n : Int} (h : ¬ Fits n) : fitOk n = false := decide_eq_false h

/-! ### Products -/
theorem natAbs_lt_of_tmod (x b : Int) (hb : b ≠ 0) : (x.tmod b).natAbs < b.natAbs := by
  rw [Int.natAbs_tmod]; exact Nat.mod_lt _ (by omega)
/-- The product went round, and dividing back still gives a: only the least number by -1. -/
theorem mul_back (a b : Int) (ha : Fits a) (hb : Fits b) (hb0 : b ≠ 0) (hn : ¬ Fits (a * b)) (hq : wrap64 ((wrap64 (a * b)).tdiv b) = a) : b = -1 ∧ a = -9223372036854775808 := by
  unfold Fits at ha hb
  have hP := wrap_fits (a * b)
  have hc : ∃ k : Int, wrap64 (a * b) = a * b + k * 18446744073709551616 := by
    refine ⟨-((a * b + 9223372036854775808) / 18446744073709551616), ?_⟩
    unfold wrap64; omega
  obtain ⟨k, hk⟩ := hc
  by_cases h1 : b = -1
  · subst h1
    refine ⟨rfl, ?_⟩
    unfold Fits at hn
    omega
  · exfalso
    have hd : Fits ((wrap64 (a * b)).tdiv b) := by
      have h2 : ((wrap64 (a * b)).tdiv b).natAbs = (wrap64 (a * b)).natAbs / b.natAbs := Int.natAbs_tdiv (wrap64 (a * b)) b
      have h3 : (wrap64 (a * b)).natAbs / b.natAbs ≤ (wrap64 (a * b)).natAbs := Nat.div_le_self _ _
      unfold Fits at hP ⊢
      by_cases h4 : b = 1
      · subst h4; simp only [Int.tdiv_one]; exact hP
      · have h5 : (wrap64 (a * b)).natAbs / b.natAbs ≤ (wrap64 (a * b)).natAbs / 2 := Nat.div_le_div_left (by omega) (by omega)
        omega
    rw [wrap_of_fits hd] at hq
    have h6 := Int.mul_tdiv_add_tmod (wrap64 (a * b)) b
    rw [hq] at h6
    have h7 := natAbs_lt_of_tmod (wrap64 (a * b)) b hb0
    rw [Int.mul_comm b a] at h6
    have h8 : (wrap64 (a * b)).tmod b = k * 18446744073709551616 := by omega
    have h9 : k = 0 := by omega
    subst h9
    simp at hk
    rw [hk] at hP
    exact hn hP
theorem mul_div (a b : Int) (hb0 : b ≠ 0) : (a * b).tdiv b = a := Int.mul_tdiv_cancel a hb0

/-- The tests of Mul: the quotient, the sign. -/
theorem mul_yes (a b : Int) (ha0 : a ≠ 0) (hb0 : b ≠ 0) (ha : Fits a) (hf : Fits (a * b)) : wrap64 ((wrap64 (a * b)).tdiv b) = a ∧ (!decide (wrap64 (a * b) < 0) == !decide (a < 0) == decide (b < 0)) = false := by
  rw [wrap_of_fits hf, mul_div a b hb0, wrap_of_fits ha]
  refine ⟨rfl, ?_⟩
  rcases Int.lt_or_gt_of_ne ha0 with h1 | h1 <;> rcases Int.lt_or_gt_of_ne hb0 with h2 | h2
  · have := Int.mul_pos_of_neg_of_neg h1 h2
    have c : ¬ a * b < 0 := by omega
    simp [h1, h2, c]
  · have c := Int.mul_neg_of_neg_of_pos h1 h2
    have d : ¬ b < 0 := by omega
    simp [h1, d, c]
  · have c := Int.mul_neg_of_pos_of_neg h1 h2
    have d : ¬ a < 0 := by omega
    simp [h2, d, c]
  · have := Int.mul_pos h1 h2
    have c : ¬ a * b < 0 := by omega
    have d : ¬ a < 0 := by omega
    have e : ¬ b < 0 := by omega
    simp [c, d, e]
theorem mul_no (a b : Int) (hb0 : b ≠ 0) (ha : Fits a) (hb : Fits b) (hf : ¬ Fits (a * b)) (hq : wrap64 ((wrap64 (a * b)).tdiv b) = a) : (!decide (wrap64 (a * b) < 0) == !decide (a < 0) == decide (b < 0)) = true := by
  obtain ⟨rfl, rfl⟩ := mul_back a b ha hb hb0 hf hq
  have h : wrap64 (-9223372036854775808 * -1) = -9223372036854775808 := by unfold wrap64; rfl
  rw [h]
  simp
theorem fits_zero : Fits 0 := by unfold Fits; omega
theorem rmul_no (a b : Int) (hb0 : b ≠ 0) (ha : Fits a) (hb : Fits b) (h1 : ¬ (b = -1 ∧ a = -9223372036854775808)) (hq : wrap64 ((wrap64 (a * b)).tdiv b) = a) : Fits (a * b) := by
  by_cases hf : Fits (a * b)
  · exact hf
  · exact absurd (mul_back a b ha hb hb0 hf hq) h1
theorem neg_back (b : Int) (hb : Fits b) (hb0 : b ≠ 0) (h : b ≠ -9223372036854775808) : wrap64 ((wrap64 (-b)).tdiv b) = -1 := by
  unfold Fits at hb
  rw [IntWalk.wrap64_in (-b) (by omega), Int.neg_tdiv, Int.tdiv_self hb0]
  unfold wrap64; rfl
theorem neg_neg_back (a : Int) (ha : Fits a) : wrap64 (-wrap64 (-a)) = a := by
  unfold Fits at ha
  unfold wrap64; omega
theorem not_fits_edge : ¬ Fits (-9223372036854775808 * -1) := by unfold Fits; omega
theorem not_fits_edge' : ¬ Fits (-1 * -9223372036854775808) := by unfold Fits; omega
end Go.Proofs.Ytmnbpnjakbihdaa
