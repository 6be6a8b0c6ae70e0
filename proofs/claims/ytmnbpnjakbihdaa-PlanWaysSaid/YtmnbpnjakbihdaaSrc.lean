/- A slice's cells, as they came in. -/
import Derived.Test.YtmnbpnjakbihdaaPiRow
import Derived.Test.YtmnbpnjakbihdaaOwn
import Derived.Lib.Hide
import Derived.IntWalk
import Derived.Laws.AppendOwn
import Derived.Deep.LoopGhost
import Derived.LoopTactic
namespace Go.Proofs.Ytmnbpnjakbihdaa
open Go.RowKit

variable {w wr w2 : World} {a : Option Addr} {n c sz B g k : Nat} {vals : List Value} {v : Value}
/-- A slice's cells, as they came in. -/
structure Src (w : World) (a : Option Addr) (n sz : Nat) (vals : List Value) : Prop where
  len : vals.length = n * sz
  one : ∀ u ∈ vals, u.oneCell' = true
  nil_ : a = none → n = 0
  at_ : ∀ ad, a = some ad → ∀ j u, vals[j]? = some u → w.cell? (ad.add j) = some u
  lt_ : ∀ ad, a = some ad → n = 0 ∨ ad.block < w.heap.size
theorem Src.later (h : Src w a n sz vals) (hb : Below w.heap.size w w2) : Src w2 a n sz vals := ⟨h.len, h.one, h.nil_, fun ad e j u hj => by
  rcases h.lt_ ad e with h0 | h0
  · have := h.len
    rw [h0, Nat.zero_mul] at this
    rw [List.eq_nil_of_length_eq_zero this] at hj
    cases hj
  · exact (hb.cell (p := ad.add j) (by unfold Addr.add; split <;> exact h0)).trans (h.at_ ad e j u hj), fun ad e => by
  rcases h.lt_ ad e with h0 | h0
  · exact .inl h0
  · exact .inr (Nat.lt_of_lt_of_le h0 hb.size)⟩
theorem IsNums.src {l : List Int} (h : IsNums w.heap.size w a n l) : Src w a n 1 (numsV l) := by
  obtain ⟨h1, h2⟩ := h
  subst h1
  refine ⟨by simp [numsV], fun u hu => ?_, fun e => ?_, fun ad e j u hj => ?_, fun ad e => ?_⟩
  · simp only [numsV, List.mem_map] at hu
    obtain ⟨i, _, rfl⟩ := hu
    rfl
  · rcases h2 with h2 | ⟨b, off, e2, _⟩
    · exact h2
    · rw [e] at e2; cases e2
  · simp only [numsV, List.getElem?_map, Option.map_eq_some_iff] at hj
    obtain ⟨z, hz, rfl⟩ := hj
    rcases h2 with h2 | ⟨b, off, e2, _, hr⟩
    · have := (List.getElem?_eq_some_iff.1 hz).1; omega
    · rw [e] at e2; injection e2 with e2; subst e2
      rw [Addr.add_lit]
      exact hr j z hz
  · rcases h2 with h2 | ⟨b, off, e2, hb, _⟩
    · exact .inl h2
    · rw [e] at e2; injection e2 with e2; subst e2; exact .inr hb
theorem none_rowT (w : World) (T : TypeId) (sz : Nat) : (w.alloc (.cells #[] T)).ownsRow w.heap.size T sz (.slice (some ⟨w.heap.size, 0, none⟩) 0 0) 0 [] :=
  ⟨by simp, .inr ⟨w.heap.size, 0, #[], rfl, Nat.le_refl _, heap_alloc_new _ _, Nat.le_refl _, Nat.zero_le _, by simp, by simp⟩⟩
end Go.Proofs.Ytmnbpnjakbihdaa
