/- Plain facts: how many bits, the list of all bits, the least bit; the library's sum of bits by fields. No Go in sight. -/
import Derived.Test.YtmnbpnjakbihdaaBits
import Derived.Lib.TrailingZeros
namespace Go.Proofs.Ytmnbpnjakbihdaa

/-! ### All numbers of a set -/
def allN (s : Nat) : List Nat := (List.range 64).filter s.testBit
theorem allN_len (s : Nat) : (allN s).length ≤ 64 := by
  have := List.length_filter_le s.testBit (List.range 64)
  simpa [allN] using this
theorem allN_zero : allN 0 = [] := by
  unfold allN
  rw [List.filter_eq_nil_iff]
  intro i _
  simp
theorem mem_allN (s i : Nat) : i ∈ allN s ↔ i < 64 ∧ s.testBit i = true := by simp [allN]

/-- The least bit. -/
theorem ctz_bit (s : Nat) (h0 : s ≠ 0) (hs : s < 18446744073709551616) : Lib.ctz 64 s < 64 ∧ s.testBit (Lib.ctz 64 s) = true ∧ ∀ i, i < Lib.ctz 64 s → s.testBit i = false := by
  obtain ⟨m, hm, hk⟩ := Lib.ctzFrom_spec 64 s (by omega) (by rw [pow64]; exact hs)
  have e : Lib.ctz 64 s = Lib.ctzFrom 64 s := by simp [Lib.ctz, h0]
  rw [e]
  generalize Lib.ctzFrom 64 s = k at hm hk
  refine ⟨hk, ?_, fun i hi => ?_⟩
  · rw [hm, Nat.testBit_two_pow_mul]
    simp
  · rw [hm, Nat.testBit_two_pow_mul]
    simp; omega
theorem range_split (n k : Nat) (h : n < k) : List.range k = List.range n ++ n :: (List.range' (n + 1) (k - n - 1)) := by
  rw [List.range_eq_range', List.range_eq_range', ← List.range'_succ]
  have : k = n + (k - n - 1 + 1) := by omega
  conv => lhs; rw [this]
  rw [← List.range'_append_1]
  simp
theorem allN_next (s : Nat) (h0 : s ≠ 0) (hs : s < 18446744073709551616) : allN s = Lib.ctz 64 s :: allN (withoutN s (Lib.ctz 64 s : Nat)) := by
  obtain ⟨hk, h1, h2⟩ := ctz_bit s h0 hs
  generalize Lib.ctz 64 s = n at hk h1 h2
  have hw : ∀ i, i < 64 → (withoutN s (n : Int)).testBit i = (s.testBit i && !decide (n = i)) := fun i hi => by
    rw [without_bit _ _ _ hi]
    congr 2
    rw [decide_eq_decide]; omega
  unfold allN
  rw [range_split n 64 hk, List.filter_append, List.filter_append, List.filter_cons, List.filter_cons, h1, hw n hk]
  have e1 : (List.range n).filter s.testBit = [] := by
    rw [List.filter_eq_nil_iff]
    intro i hi
    rw [h2 i (by simpa using hi)]; simp
  have e2 : (List.range n).filter (withoutN s (n : Int)).testBit = [] := by
    rw [List.filter_eq_nil_iff]
    intro i hi
    have hi2 : i < n := by simpa using hi
    rw [hw i (by omega), h2 i hi2]; simp
  have e3 : (List.range' (n + 1) (64 - n - 1)).filter s.testBit = (List.range' (n + 1) (64 - n - 1)).filter (withoutN s (n : Int)).testBit := by
    apply List.filter_congr
    intro i hi
    rw [List.mem_range'_1] at hi
    have : decide (n = i) = false := by rw [decide_eq_false_iff_not]; omega
    rw [hw i (by omega), this]; simp
  rw [e1, e2, e3]
  simp
/-- All numbers of a set make it. -/
theorem ofN_all (s : Nat) (hs : s < 18446744073709551616) : ofN ((allN s).map fun n : Nat => (n : Int)) = s := by
  apply bits_ext (ofN_lt _) hs
  intro i hi
  rw [ofN_bit _ _ hi]
  unfold inB
  rw [Bool.eq_iff_iff]
  simp only [List.any_eq_true, List.mem_map, decide_eq_true_eq]
  constructor
  · rintro ⟨x, ⟨n, hn, rfl⟩, hx⟩
    obtain rfl : n = i := by omega
    exact ((mem_allN s n).1 hn).2
  · intro h
    exact ⟨i, ⟨i, (mem_allN s i).2 ⟨hi, h⟩, rfl⟩, rfl⟩
/-- Two sets: of both, and of one of them, there are as many as of each. -/
theorem two_count (s o : Nat) : (allN (s &&& o)).length + (allN (s ||| o)).length = (allN s).length + (allN o).length := by
  unfold allN
  generalize List.range 64 = l
  induction l with
  | nil => simp
  | cons i l ih =>
    simp only [List.filter_cons, Nat.testBit_and, Nat.testBit_or]
    cases s.testBit i <;> cases o.testBit i <;> simp <;> omega
theorem and_or_less (s o : Nat) (hs : s < 18446744073709551616) (ho : o < 18446744073709551616) : (s &&& o) ||| lessN s o = s := by
  apply bits_ext (or_lt (and_lt hs o) (lessN_lt hs o)) hs
  intro i hi
  rw [Nat.testBit_or, Nat.testBit_and, less_bit _ _ _ ho hi]
  cases s.testBit i <;> cases o.testBit i <;> rfl
end Go.Proofs.Ytmnbpnjakbihdaa
