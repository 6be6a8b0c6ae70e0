/- A world in which a block of the call's own is an array of 64 bools. -/
import Derived.Test.YtiinibblfodaaaaList
import Derived.Deep.MidRow
import Derived.Deep.Draws
namespace Go.Proofs.Ytiinibblfodaaaa
open Go.RowKit

/-- wr is w but for what is new; block g, new, is just these 64 bools. -/
structure WantW (w wr : World) (g : Nat) (f : Nat → Bool) : Prop where
  below : Below w.heap.size w wr
  new : w.heap.size ≤ g
  blk : wr.heap[g]? = some (.cells (cellsB f) 24 (0, 0))
theorem WantW.lt {w wr : World} {g : Nat} {f : Nat → Bool} (h : WantW w wr g f) : g < wr.heap.size := by
  rcases Nat.lt_or_ge g wr.heap.size with h' | h'
  · exact h'
  · have := h.blk; simp [Array.getElem?_eq_none h'] at this
theorem WantW.make {w w1 : World} (h : Below w.heap.size w w1) (f : Nat → Bool) : WantW w (w1.alloc (.cells (cellsB f) 24)) w1.heap.size f :=
  ⟨h.alloc h.size _, h.size, heap_alloc_new _ _⟩
theorem WantW.cell {w wr : World} {g : Nat} {f : Nat → Bool} (h : WantW w wr g f) (i : Nat) (hi : i < 64) : wr.cell? ⟨g, i, none⟩ = some (.bool (f i)) := by
  rw [cell_of_row _ _ _ _ _ _ h.blk]; exact cellsB_get _ _ hi
theorem WantW.free {w wr : World} {g : Nat} {f : Nat → Bool} (h : WantW w wr g f) (i : Nat) : wr.frozen? ⟨g, i, none⟩ = false := frozen_of_row _ _ _ _ _ h.blk
theorem WantW.set_ {w wr : World} {g : Nat} {f f' : Nat → Bool} (h : WantW w wr g f) (i : Nat) (b : Bool) (e : (cellsB f).setIfInBounds i (.bool b) = cellsB f') : WantW w (wr.setCell ⟨g, i, none⟩ (.bool b)) g f' :=
  ⟨h.below.setCell h.new _, h.new, by rw [heap_setCell_same _ _ _ _ _ _ h.blk, e]⟩
theorem WantW.far {w wr : World} {g g' : Nat} {f : Nat → Bool} (h : WantW w wr g f) (hg : w.heap.size ≤ g') (hne : g ≠ g') (i : Nat) (v : Value) : WantW w (wr.setCell ⟨g', i, none⟩ v) g f :=
  ⟨h.below.setCell hg _, h.new, by rw [heap_setCell_other _ _ _ _ hne]; exact h.blk⟩
theorem WantW.turn {w wr : World} {g : Nat} {f f' : Nat → Bool} (h : WantW w wr g f) (e : cellsB f = cellsB f') : WantW w wr g f' := ⟨h.below, h.new, e ▸ h.blk⟩
theorem WantW.later {w wr w2 : World} {g : Nat} {f : Nat → Bool} (h : WantW w wr g f) (hb : Below wr.heap.size wr w2) : WantW w w2 g f :=
  ⟨h.below.trans (hb.mono h.below.size), h.new, (hb.block g h.lt).trans h.blk⟩
theorem WantW.drewN {w wr : World} {g : Nat} {f : Nat → Bool} (h : WantW w wr g f) (n : Nat) : WantW w (wr.drewN n) g f := ⟨⟨h.below.os, h.below.tape, h.below.output, h.below.size, h.below.block⟩, h.new, h.blk⟩
theorem WantW.alloc {w wr : World} {g : Nat} {f : Nat → Bool} (h : WantW w wr g f) (o : Obj) : WantW w (wr.alloc o) g f := ⟨h.below.alloc h.below.size o, h.new, (Below.heap_alloc _ _ _ h.lt).trans h.blk⟩
theorem WantW.range {w wr : World} {g : Nat} {f : Nat → Bool} (h : WantW w wr g f) (L : List Value) (hL : L.toArray = cellsB f) : wr.rangeAt g 0 L := by
  intro j v hv
  rw [cell_of_row _ _ _ _ _ _ h.blk, Nat.zero_add, ← hL]
  simpa using hv
theorem row_second (w : World) (A : Obj) (C cs : Array Value) (t : TypeId) : (((w.alloc A).alloc (.cells cs t)).setRow w.heap.size C).heap[w.heap.size + 1]? = some (.cells cs t (0, 0)) :=
  (setRow_other _ _ _ _ (by omega)).trans (heap_alloc2_new w A (.cells cs t))
/-- Two such blocks. -/
structure TwoW (w wr : World) (g1 g2 : Nat) (f1 f2 : Nat → Bool) : Prop where
  one : WantW w wr g1 f1
  two : WantW w wr g2 f2
  ne : g1 ≠ g2
theorem TwoW.make {w w3 : World} (h : Below w.heap.size w w3) (f0 f1 f2 : Nat → Bool) :
    TwoW w ((((w3.alloc (.cells (cellsB f0) 24)).alloc (.cells (cellsB f0) 24)).setRow w3.heap.size (cellsB f1)).setRow (w3.heap.size + 1) (cellsB f2)) w3.heap.size (w3.heap.size + 1) f1 f2 := by
  have hb : Below w.heap.size w ((((w3.alloc (.cells (cellsB f0) 24)).alloc (.cells (cellsB f0) 24)).setRow w3.heap.size (cellsB f1)).setRow (w3.heap.size + 1) (cellsB f2)) :=
    below_setRow (below_setRow ((h.alloc h.size _).alloc (by simp; have := h.size; omega) _) h.size _) (by have := h.size; omega) _
  refine ⟨⟨hb, h.size, ?_⟩, ⟨hb, by have := h.size; omega, ?_⟩, by omega⟩
  · rw [setRow_other _ _ _ _ (by omega)]
    exact setRow_heap _ _ _ _ _ _ (heap_alloc2_old _ _ _)
  · exact setRow_heap _ _ _ _ _ _ (row_second _ _ _ _ _)
theorem TwoW.later {w wr w2 : World} {g1 g2 : Nat} {f1 f2 : Nat → Bool} (h : TwoW w wr g1 g2 f1 f2) (hb : Below wr.heap.size wr w2) : TwoW w w2 g1 g2 f1 f2 := ⟨h.one.later hb, h.two.later hb, h.ne⟩
theorem TwoW.turn {w wr : World} {g1 g2 : Nat} {f1 f2 h1 h2 : Nat → Bool} (h : TwoW w wr g1 g2 f1 f2) (e1 : cellsB f1 = cellsB h1) (e2 : cellsB f2 = cellsB h2) : TwoW w wr g1 g2 h1 h2 := ⟨h.one.turn e1, h.two.turn e2, h.ne⟩
theorem two_later {w wr w2 : World} {g1 g2 : Nat} {f1 f2 : Nat → Bool} {L1 L2 : List Value} (e1 : L1.toArray = cellsB f1) (e2 : L2.toArray = cellsB f2) (h : TwoW w wr g1 g2 f1 f2 ∧ wr.rangeAt g1 0 L1 ∧ wr.rangeAt g2 0 L2) (hb : Below wr.heap.size wr w2) : TwoW w w2 g1 g2 f1 f2 ∧ w2.rangeAt g1 0 L1 ∧ w2.rangeAt g2 0 L2 :=
  ⟨h.1.later hb, (h.1.later hb).one.range L1 e1, (h.1.later hb).two.range L2 e2⟩
theorem TwoW.ranges {w wr : World} {g1 g2 : Nat} {f1 f2 : Nat → Bool} {L1 L2 : List Value} (h : TwoW w wr g1 g2 f1 f2) (e1 : L1.toArray = cellsB f1) (e2 : L2.toArray = cellsB f2) : TwoW w wr g1 g2 f1 f2 ∧ wr.rangeAt g1 0 L1 ∧ wr.rangeAt g2 0 L2 :=
  ⟨h, h.one.range L1 e1, h.two.range L2 e2⟩
theorem list_of (f : Nat → Bool) : ∃ L : List Value, L.toArray = cellsB f ∧ L.length = 64 :=
  ⟨(cellsB f).toList, by simp, by rw [Array.length_toList, cellsB_size]⟩
theorem row_below {w wr : World} {a : Option Addr} {zs : List Int} (h : Row w a zs) (hlt : ∀ x, a = some x → 0 < zs.length → x.block < w.heap.size) (hb : Below w.heap.size w wr) : Row wr a zs := by
  rcases h with h | ⟨b, off, rfl, hc⟩
  · exact .inl h
  · refine .inr ⟨b, off, rfl, fun j hj => ?_⟩
    have hl := hlt ⟨b, off, none⟩ rfl (by omega)
    rw [hb.cell (p := ⟨b, off + j, none⟩) hl, hc j hj]
end Go.Proofs.Ytiinibblfodaaaa
