/- Words of floats of 64 bits: what they read as, their order, and that the operations keep order. No Go in sight. -/
import Derived.Test.YtepnhddileadmaaDoorFloat
import Derived.Laws.FloatArith
namespace Go.Proofs.YtepnhddileadmaaDoor
open Ieee

def rung (b : Nat) : Nat := b % 9223372036854775808
def negB (b : Nat) : Bool := decide (9223372036854775808 ≤ b)
def nanB (b : Nat) : Bool := decide (9218868437227405312 < rung b)
def key (b : Nat) : Int := if 9223372036854775808 ≤ b then -(rung b : Int) else rung b

def mant (r : Nat) : Nat := if r < 4503599627370496 then r else 4503599627370496 + r % 4503599627370496
def expo (r : Nat) : Nat := r / 4503599627370496 - 1
/-- A rung's number, in units of the least place. -/
def sv (r : Nat) : Nat := mant r * 2 ^ expo r

theorem rung_lt (b : Nat) : rung b < 9223372036854775808 := Nat.mod_lt _ (by omega)
theorem rung_pos {b : Nat} (h : b < 9223372036854775808) : rung b = b := Nat.mod_eq_of_lt h
theorem key_pos {b : Nat} (h : b < 9223372036854775808) : key b = (b : Int) := by unfold key; rw [if_neg (by omega), rung_pos h]

theorem sign_read (b : Nat) (hb : b < 18446744073709551616) : (b / double.signWeight % 2 == 1) = negB b := by
  rw [d_sign, Bool.eq_iff_iff]
  simp [negB]
  omega
theorem read_num (b : Nat) (hb : b < 18446744073709551616) (h : rung b < 9218868437227405312) : double.read b = .number (negB b) (mant (rung b)) (-1074 + (expo (rung b) : Int)) := by
  unfold Format.read
  rw [sign_read b hb]
  simp only [d_sign, d_binade, d_inf, d_least]
  unfold mant expo
  have h' : b % 9223372036854775808 < 9218868437227405312 := h
  have e : b % 9223372036854775808 = rung b := rfl
  rw [e]
  rw [e] at h'
  by_cases c : rung b < 4503599627370496
  · rw [if_pos c, if_pos c, Nat.div_eq_of_lt c]; rfl
  · rw [if_neg c, if_pos h', if_neg c]
theorem read_inf (b : Nat) (hb : b < 18446744073709551616) (h : rung b = 9218868437227405312) : double.read b = .infinity (negB b) := by
  unfold Format.read
  rw [sign_read b hb]
  simp only [d_sign, d_binade, d_inf, d_least]
  have e : b % 9223372036854775808 = rung b := rfl
  rw [e, h]; rfl
theorem read_nan (b : Nat) (hb : b < 18446744073709551616) (h : 9218868437227405312 < rung b) : ∃ t, double.read b = .nan (negB b) t := by
  unfold Format.read
  rw [sign_read b hb]
  simp only [d_sign, d_binade, d_inf, d_least]
  have e : b % 9223372036854775808 = rung b := rfl
  rw [e, if_neg (by omega), if_neg (by omega), if_neg (by omega)]
  exact ⟨_, rfl⟩

theorem mant_lt (r : Nat) : mant r < 2 ^ 53 := by
  unfold mant
  rw [show (2 : Nat) ^ 53 = 9007199254740992 by decide]
  split <;> omega
theorem le_mant (r : Nat) (h : 4503599627370496 ≤ r) : 2 ^ 52 ≤ mant r := by
  unfold mant
  rw [show (2 : Nat) ^ 52 = 4503599627370496 by decide]
  rw [if_neg (by omega)]; omega

theorem sv_lt {r s : Nat} (h : r < s) : sv r < sv s := by
  unfold sv
  have m1 := mant_lt r
  by_cases c : expo r = expo s
  · rw [c]
    refine (Nat.mul_lt_mul_right (Nat.two_pow_pos _)).2 ?_
    unfold mant; unfold expo at c
    split <;> split <;> omega
  · have h1 : expo r + 1 ≤ expo s := by unfold expo at c ⊢; omega
    have h2 : 4503599627370496 ≤ s := by unfold expo at h1; omega
    have m2 := le_mant s h2
    have h3 : mant r * 2 ^ expo r < 2 ^ 53 * 2 ^ expo r := (Nat.mul_lt_mul_right (Nat.two_pow_pos _)).2 m1
    have h4 : 2 ^ 52 * 2 ^ expo s ≤ mant s * 2 ^ expo s := Nat.mul_le_mul_right _ m2
    have h5 : (2 : Nat) ^ 53 * 2 ^ expo r ≤ 2 ^ 52 * 2 ^ expo s := by
      rw [← Nat.pow_add, ← Nat.pow_add]
      exact Nat.pow_le_pow_right (by omega) (by omega)
    omega
theorem sv_lt_iff (r s : Nat) : sv r < sv s ↔ r < s := by
  constructor
  · intro h
    rcases Nat.lt_trichotomy r s with c | c | c
    · exact c
    · rw [c] at h; omega
    · have := sv_lt c; omega
  · exact sv_lt
theorem sv_le {r s : Nat} (h : r ≤ s) : sv r ≤ sv s := by
  rcases Nat.lt_or_eq_of_le h with c | c
  · exact Nat.le_of_lt (sv_lt c)
  · rw [c]; exact Nat.le_refl _
theorem sv_zero : sv 0 = 0 := by decide

/-! ### Order -/
def ssv (s : Bool) (m : Nat) : Int := if s then -(m : Int) else m
theorem cmp_of {a b c d : Int} (h1 : a < b ↔ c < d) (h2 : b < a ↔ d < c) : compare a b = compare c d := by
  show (if a < b then Ordering.lt else if a = b then .eq else .gt) = (if c < d then Ordering.lt else if c = d then .eq else .gt)
  by_cases g1 : a < b
  · rw [if_pos g1, if_pos (h1.1 g1)]
  · rw [if_neg g1, if_neg (fun h => g1 (h1.2 h))]
    by_cases g2 : b < a
    · rw [if_neg (by omega), if_neg (by have := h2.1 g2; omega)]
    · rw [if_pos (by omega), if_pos (by have := mt h2.2 g2; have := mt h1.2 g1; omega)]
theorem signed_ssv (s : Bool) (m k : Nat) : signed s m k = ssv s (m * 2 ^ k) := by
  unfold signed ssv; rw [Nat.shiftLeft_eq]
theorem ssv_mul (s : Bool) (m p : Nat) : ssv s (m * p) = ssv s m * p := by
  unfold ssv; cases s <;> simp [Int.neg_mul]
theorem cmp_scale (s t : Bool) (m n a c : Nat) : compare (signed s m (a - min a c)) (signed t n (c - min a c)) = compare (ssv s (m * 2 ^ a)) (ssv t (n * 2 ^ c)) := by
  rw [signed_ssv, signed_ssv]
  have e1 : m * 2 ^ a = m * 2 ^ (a - min a c) * 2 ^ min a c := by rw [Nat.mul_assoc, ← Nat.pow_add]; congr 2; omega
  have e2 : n * 2 ^ c = n * 2 ^ (c - min a c) * 2 ^ min a c := by rw [Nat.mul_assoc, ← Nat.pow_add]; congr 2; omega
  rw [e1, e2, ssv_mul s (m * 2 ^ (a - min a c)) (2 ^ min a c), ssv_mul t (n * 2 ^ (c - min a c)) (2 ^ min a c)]
  have hp : (0 : Int) < ((2 ^ min a c : Nat) : Int) := by have := Nat.two_pow_pos (min a c); omega
  exact cmp_of (Int.mul_lt_mul_right hp).symm (Int.mul_lt_mul_right hp).symm

theorem key_cmp (b c : Nat) : compare (ssv (negB b) (sv (rung b))) (ssv (negB c) (sv (rung c))) = compare (key b) (key c) := by
  have z1 := sv_lt_iff 0 (rung b)
  have z2 := sv_lt_iff 0 (rung c)
  have z3 := sv_lt_iff (rung b) (rung c)
  have z4 := sv_lt_iff (rung c) (rung b)
  rw [sv_zero] at z1 z2
  unfold ssv key negB
  by_cases h1 : 9223372036854775808 ≤ b
  all_goals by_cases h2 : 9223372036854775808 ≤ c
  all_goals
    simp only [h1, h2, decide_true, decide_false, if_true, if_false, Bool.false_eq_true]
    refine cmp_of ?_ ?_ <;> omega

theorem order_eq (b c : Nat) (hb : b < 18446744073709551616) (hc : c < 18446744073709551616) (nb : nanB b = false) (nc : nanB c = false) : double.order b c = some (compare (key b) (key c)) := by
  have nb' : rung b ≤ 9218868437227405312 := by simpa [nanB] using nb
  have nc' : rung c ≤ 9218868437227405312 := by simpa [nanB] using nc
  unfold Format.order
  rcases Nat.lt_or_eq_of_le nb' with g | g
  · rw [read_num b hb g]
    rcases Nat.lt_or_eq_of_le nc' with k | k
    · rw [read_num c hc k]
      simp only [Datum.order]
      rw [← key_cmp]
      have e1 : (-1074 + (expo (rung b) : Int) - min (-1074 + (expo (rung b) : Int)) (-1074 + (expo (rung c) : Int))).toNat = expo (rung b) - min (expo (rung b)) (expo (rung c)) := by omega
      have e2 : (-1074 + (expo (rung c) : Int) - min (-1074 + (expo (rung b) : Int)) (-1074 + (expo (rung c) : Int))).toNat = expo (rung c) - min (expo (rung b)) (expo (rung c)) := by omega
      rw [e1, e2, cmp_scale]; rfl
    · rw [read_inf c hc k]
      simp only [Datum.order]
      unfold key negB
      by_cases h2 : 9223372036854775808 ≤ c
      · rw [decide_eq_true h2, if_pos rfl, if_pos h2]
        show some Ordering.gt = some (if _ < _ then Ordering.lt else if _ = _ then .eq else .gt)
        rw [if_neg (by split <;> omega), if_neg (by split <;> omega)]
      · rw [decide_eq_false h2, if_neg (by simp), if_neg h2]
        show some Ordering.lt = some (if _ < _ then Ordering.lt else if _ = _ then .eq else .gt)
        rw [if_pos (by split <;> omega)]
  · rw [read_inf b hb g]
    rcases Nat.lt_or_eq_of_le nc' with k | k
    · rw [read_num c hc k]
      simp only [Datum.order]
      unfold key negB
      by_cases h2 : 9223372036854775808 ≤ b
      · rw [decide_eq_true h2, if_pos rfl, if_pos h2]
        show some Ordering.lt = some (if _ < _ then Ordering.lt else if _ = _ then .eq else .gt)
        rw [if_pos (by split <;> omega)]
      · rw [decide_eq_false h2, if_neg (by simp), if_neg h2]
        show some Ordering.gt = some (if _ < _ then Ordering.lt else if _ = _ then .eq else .gt)
        rw [if_neg (by split <;> omega), if_neg (by split <;> omega)]
    · rw [read_inf c hc k]
      simp only [Datum.order]
      unfold key negB
      rw [g, k]
      by_cases h1 : 9223372036854775808 ≤ b
      all_goals by_cases h2 : 9223372036854775808 ≤ c
      all_goals simp [h1, h2]
      all_goals decide
theorem order_nan (b c : Nat) (hb : b < 18446744073709551616) (hc : c < 18446744073709551616) (h : nanB b = true ∨ nanB c = true) : double.order b c = none := by
  unfold Format.order
  rcases h with h | h
  · obtain ⟨t, ht⟩ := read_nan b hb (by simpa [nanB] using h)
    rw [ht]; rfl
  · obtain ⟨t, ht⟩ := read_nan c hc (by simpa [nanB] using h)
    rw [ht]; cases double.read b <;> rfl

theorem cmp_lt (a b : Int) : (some (compare a b) == some Ordering.lt) = decide (a < b) := by
  show (some (if a < b then Ordering.lt else if a = b then .eq else .gt) == some .lt) = _
  by_cases h : a < b
  · simp [h]
  · by_cases g : a = b <;> simp [h, g]
theorem cmp_gt (a b : Int) : (some (compare a b) == some Ordering.gt) = decide (b < a) := by
  show (some (if a < b then Ordering.lt else if a = b then .eq else .gt) == some .gt) = _
  by_cases h : a < b
  · simp [h]; omega
  · by_cases g : a = b
    · simp [g]
    · simp [h, g]; omega
theorem cmp_ge (a b : Int) : (some (compare a b) == some Ordering.gt || some (compare a b) == some Ordering.eq) = decide (b ≤ a) := by
  show (some (if a < b then Ordering.lt else if a = b then .eq else .gt) == some .gt || some (if a < b then Ordering.lt else if a = b then .eq else .gt) == some .eq) = _
  by_cases h : a < b
  · simp [h]
  · by_cases g : a = b
    · simp [g]
    · simp [h, g]; omega
theorem cmp_ne (a : Int) : (some (compare a a) != some Ordering.eq) = false := by
  show (some (if a < a then Ordering.lt else if a = a then .eq else .gt) != some .eq) = _
  simp
end Go.Proofs.YtepnhddileadmaaDoor
