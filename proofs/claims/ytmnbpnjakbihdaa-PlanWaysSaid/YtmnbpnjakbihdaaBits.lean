/- Plain facts on sets of the numbers from 0 to 63 as natural numbers below 2^64, and on rows of 64 bools: no Go in sight. -/
import Derived.WalkKit
namespace Go.Proofs.Ytmnbpnjakbihdaa
open Go.RowKit

/-- The cells of an array of 64 bools. -/
def cellsB (f : Nat → Bool) : Array Value := ((List.range 64).map fun i => Value.bool (f i)).toArray
theorem cellsB_size (f : Nat → Bool) : (cellsB f).size = 64 := by simp [cellsB]
theorem cellsB_get (f : Nat → Bool) (i : Nat) (h : i < 64) : (cellsB f)[i]? = some (.bool (f i)) := by
  simp [cellsB, h]
theorem cellsB_ext {f g : Nat → Bool} (h : ∀ i, i < 64 → f i = g i) : cellsB f = cellsB g := by
  unfold cellsB
  congr 1
  apply List.map_congr_left
  intro i hi
  rw [h i (by simpa using hi)]
theorem cellsB_set (f : Nat → Bool) (i : Nat) (b : Bool) : (cellsB f).setIfInBounds i (.bool b) = cellsB (fun j => if j = i then b else f j) := by
  apply Array.ext_getElem?
  intro j
  rw [Array.getElem?_setIfInBounds]
  by_cases hj : j < 64
  · by_cases e : i = j
    · subst e
      rw [if_pos rfl, if_pos (by rw [cellsB_size]; exact hj), cellsB_get _ _ hj, if_pos rfl]
    · rw [if_neg e, cellsB_get _ _ hj, cellsB_get _ _ hj, if_neg (fun h => e h.symm)]
  · have h1 : ∀ g : Nat → Bool, (cellsB g)[j]? = none := fun g => by rw [Array.getElem?_eq_none]; rw [cellsB_size]; omega
    rw [h1, h1]
    by_cases e : i = j
    · rw [if_pos e, if_neg (by rw [cellsB_size]; omega)]
    · rw [if_neg e]
theorem cellsB_one (f : Nat → Bool) : (cellsB f).all (·.oneCell') = true := by
  rw [Array.all_eq_true_iff_forall_mem]
  intro v hv
  simp [cellsB] at hv
  obtain ⟨i, _, rfl⟩ := hv
  rfl
theorem cellsB_none : cellsB (fun _ => false) = Array.replicate 64 (.bool false) := by rfl

/-! ### Sets -/
/-- The set of one number; of none, if there isn't that number. -/
def onlyN (n : Int) : Nat := if 0 ≤ n ∧ n < 64 then 2 ^ n.toNat else 0
def withN (s : Nat) (n : Int) : Nat := s ||| onlyN n
def lessN (a b : Nat) : Nat := a &&& (18446744073709551615 - b)
def withoutN (s : Nat) (n : Int) : Nat := lessN s (onlyN n)
def hasN (s : Nat) (n : Int) : Bool := decide (0 ≤ n ∧ n < 64) && s.testBit n.toNat
def ofN (l : List Int) : Nat := l.foldl withN 0

theorem pow64 : (2 : Nat) ^ 64 = 18446744073709551616 := by decide
theorem onlyN_lt (n : Int) : onlyN n < 18446744073709551616 := by
  unfold onlyN
  split
  · rw [← pow64]; exact Nat.pow_lt_pow_right (by omega) (by omega)
  · omega
theorem withN_lt {s : Nat} (h : s < 18446744073709551616) (n : Int) : withN s n < 18446744073709551616 := by
  have h1 := onlyN_lt n
  rw [← pow64] at *
  exact Nat.or_lt_two_pow h h1
theorem lessN_lt {a : Nat} (h : a < 18446744073709551616) (b : Nat) : lessN a b < 18446744073709551616 := by
  unfold lessN
  exact Nat.lt_of_le_of_lt Nat.and_le_left h
theorem withoutN_lt {s : Nat} (h : s < 18446744073709551616) (n : Int) : withoutN s n < 18446744073709551616 := lessN_lt h _
theorem and_lt {a : Nat} (h : a < 18446744073709551616) (b : Nat) : a &&& b < 18446744073709551616 := Nat.lt_of_le_of_lt Nat.and_le_left h
theorem or_lt {a b : Nat} (h : a < 18446744073709551616) (k : b < 18446744073709551616) : a ||| b < 18446744073709551616 := by
  rw [← pow64] at *
  exact Nat.or_lt_two_pow h k
theorem only_bit (n : Int) (i : Nat) : (onlyN n).testBit i = decide (0 ≤ n ∧ n < 64 ∧ n.toNat = i) := by
  unfold onlyN
  split
  · rename_i h
    rw [Nat.testBit_two_pow]
    simp [h]
  · rename_i h
    rw [Nat.zero_testBit]
    symm
    rw [decide_eq_false_iff_not]
    omega
theorem with_bit (s : Nat) (n : Int) (i : Nat) : (withN s n).testBit i = (s.testBit i || decide (0 ≤ n ∧ n < 64 ∧ n.toNat = i)) := by
  unfold withN
  rw [Nat.testBit_or, only_bit]
theorem less_bit (a b i : Nat) (hb : b < 18446744073709551616) (hi : i < 64) : (lessN a b).testBit i = (a.testBit i && !b.testBit i) := by
  unfold lessN
  have e : 18446744073709551615 - b = 2 ^ 64 - (b + 1) := by rw [pow64]; omega
  rw [Nat.testBit_and, e, Nat.testBit_two_pow_sub_succ (by rw [pow64]; exact hb)]
  simp [hi]
theorem without_bit (s : Nat) (n : Int) (i : Nat) (hi : i < 64) : (withoutN s n).testBit i = (s.testBit i && !decide (0 ≤ n ∧ n < 64 ∧ n.toNat = i)) := by
  unfold withoutN
  rw [less_bit _ _ _ (onlyN_lt n) hi, only_bit]
theorem high_bit {s : Nat} (h : s < 18446744073709551616) (i : Nat) (hi : 64 ≤ i) : s.testBit i = false := by
  apply Nat.testBit_lt_two_pow
  exact Nat.lt_of_lt_of_le (by rw [← pow64] at h; exact h) (Nat.pow_le_pow_right (by omega) hi)
theorem bits_ext {a b : Nat} (ha : a < 18446744073709551616) (hb : b < 18446744073709551616) (h : ∀ i, i < 64 → a.testBit i = b.testBit i) : a = b := by
  apply Nat.eq_of_testBit_eq
  intro i
  by_cases hi : i < 64
  · exact h i hi
  · rw [high_bit ha i (by omega), high_bit hb i (by omega)]
theorem has_and (s : Nat) (n : Int) : (s &&& onlyN n = 0) ↔ hasN s n = false := by
  unfold hasN
  by_cases h : 0 ≤ n ∧ n < 64
  · have e : onlyN n = 2 ^ n.toNat := if_pos h
    rw [e]
    rw [decide_eq_true h, Bool.true_and]
    constructor
    · intro h0
      have h1 : (s &&& 2 ^ n.toNat).testBit n.toNat = false := by rw [h0, Nat.zero_testBit]
      rw [Nat.testBit_and, Nat.testBit_two_pow] at h1
      simpa using h1
    · intro h0
      apply Nat.eq_of_testBit_eq
      intro i
      rw [Nat.testBit_and, Nat.testBit_two_pow, Nat.zero_testBit]
      by_cases e : n.toNat = i
      · rw [← e, h0]; rfl
      · simp [e]
  · have e : onlyN n = 0 := if_neg h
    rw [e]
    simp [h]

/-- One bit, as the law reads it. -/
theorem bit_mod (s i : Nat) : s / 2 ^ i % 2 = (s.testBit i).toNat := by
  rw [Nat.testBit_eq_decide_div_mod_eq]
  by_cases h : s / 2 ^ i % 2 = 1
  · simp [h]
  · have : s / 2 ^ i % 2 = 0 := by omega
    simp [this]

/-! ### The set of some numbers -/
theorem ofN_snoc (l : List Int) (n : Int) : ofN (l ++ [n]) = withN (ofN l) n := by simp [ofN]
theorem ofN_lt (l : List Int) : ofN l < 18446744073709551616 := by
  unfold ofN
  have : ∀ (l : List Int) (s : Nat), s < 18446744073709551616 → l.foldl withN s < 18446744073709551616 := by
    intro l
    induction l with
    | nil => intro s h; exact h
    | cons n l ih => intro s h; exact ih _ (withN_lt h n)
  exact this l 0 (by omega)
def inB (l : List Int) (i : Nat) : Bool := l.any fun n => decide (n = (i : Int))
theorem ofN_bit (l : List Int) (i : Nat) (hi : i < 64) : (ofN l).testBit i = inB l i := by
  have : ∀ (l : List Int) (s : Nat), (l.foldl withN s).testBit i = (s.testBit i || inB l i) := by
    intro l
    induction l with
    | nil => intro s; simp [inB]
    | cons n l ih =>
      intro s
      rw [List.foldl_cons, ih, with_bit]
      have e : decide (0 ≤ n ∧ n < 64 ∧ n.toNat = i) = decide (n = (i : Int)) := by
        rw [decide_eq_decide]; omega
      rw [e]
      simp [inB, Bool.or_assoc]
  have h := this l 0
  rw [Nat.zero_testBit, Bool.false_or] at h
  exact h
theorem inB_snoc (l : List Int) (n : Int) (i : Nat) : inB (l ++ [n]) i = (inB l i || decide (n = (i : Int))) := by simp [inB]
end Go.Proofs.Ytmnbpnjakbihdaa
