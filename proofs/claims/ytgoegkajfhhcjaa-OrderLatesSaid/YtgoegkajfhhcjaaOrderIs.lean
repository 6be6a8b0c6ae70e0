/- Package order answers as it is to (order_spec): Sort, Cycle, Late. -/
import Derived.Test.YtgoegkajfhhcjaaOLate
import Derived.Test.YtgoegkajfhhcjaaOCyc
namespace Go.Proofs.Ytgoegkajfhhcjaa
open Go.RowKit

variable {w : World} {g N B : Nat} {got : Nat → Int}
theorem longRow_of (h : w.rowIs g 2 N (fun i => .int .i64 (got i))) (hB : B ≤ g) (hN : N ≤ maxLen) : LongRow w B (.slice (some ⟨g, 0, none⟩) N N) N got := by
  obtain ⟨c, hb, hn, hc⟩ := h
  refine ⟨by rw [rowF_length, Nat.mul_one], .inr ⟨g, N, c, rfl, hB, hb, Nat.le_refl _, hN, by rw [Nat.mul_one]; exact hn, ?_⟩⟩
  rw [Nat.mul_one, List.take_of_length_le (by simp [hn])]
  apply List.ext_getElem?
  intro i
  rw [Array.getElem?_toList]
  by_cases hi : i < N
  · rw [hc i hi, rowF_get _ hi]
  · rw [Array.getElem?_eq_none (by omega), List.getElem?_eq_none (by rw [rowF_length]; omega)]
theorem late_ok (N len cap : Nat) (l : List Ar) (a : Option Addr) (c : Nat) (xs : List Int) (b : Option Addr) (w : World) (he : lateErr (N : Int) l xs = 0) (hl : IsArcs w.heap.size w a len l) (hi : IsInts w.heap.size w b N xs) :
    Calls Try.prog 16 #[.agg #[.int .i64 (N : Int), .slice a len cap], .slice b N c] w fun e w' => Below w.heap.size w w' ∧
      ∃ v got, e = .returned (.tuple #[v, .int .i64 0]) ∧ LongRow w' w.heap.size v N got ∧ LateIs l N (fun i => xs.getD i 0) got := by
  obtain ⟨h1, h2, h3, o, ho⟩ := lateErr_zero he
  obtain ⟨⟨_, hN, _⟩, _⟩ := checkV_zero.1 h2
  exact (late_whole cap c a b w h1 h2 h3 ho hl hi).mono fun e w' ⟨hb, gb, got, h4, h5, h6, h7⟩ => ⟨hb, _, got, h4, longRow_of h5 h6 (by unfold maxLen; omega), h7⟩
/-- All calls of package order answer so. -/
theorem order_spec : OrderSpec := ⟨osort_ok, osort_bad, ocycle_ok, ocycle_bad, late_bad, late_ok⟩
end Go.Proofs.Ytgoegkajfhhcjaa
