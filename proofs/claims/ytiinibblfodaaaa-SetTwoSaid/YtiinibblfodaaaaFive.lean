/- Five arrays of 64 bools, new, side by side. -/
import Derived.Test.YtiinibblfodaaaaWant
namespace Go.Proofs.Ytiinibblfodaaaa
open Go.RowKit

/-- f, but only below k. -/
def upF (f : Nat → Bool) (k : Nat) : Nat → Bool := fun j => decide (j < k) && f j
theorem upF_zero (f : Nat → Bool) : cellsB (upF f 0) = cellsB fun _ => false := cellsB_ext fun i _ => by simp [upF]
theorem upF_all (f : Nat → Bool) : cellsB (upF f 64) = cellsB f := cellsB_ext fun i hi => by simp [upF, hi]
theorem upF_set (f : Nat → Bool) (k : Nat) : (cellsB (upF f k)).setIfInBounds k (.bool (f k)) = cellsB (upF f (k + 1)) := by
  rw [cellsB_set]
  apply cellsB_ext
  intro i _
  by_cases h : i = k
  · subst h; simp [upF]
  · have : decide (i < k + 1) = decide (i < k) := by rw [decide_eq_decide]; omega
    simp [upF, h, this]

structure FiveW (w wr : World) (g : Nat) (f0 f1 f2 f3 f4 : Nat → Bool) : Prop where
  a : WantW w wr g f0
  b : WantW w wr (g + 1) f1
  c : WantW w wr (g + 2) f2
  d : WantW w wr (g + 3) f3
  e : WantW w wr (g + 4) f4
theorem FiveW.later {w wr w2 : World} {g : Nat} {f0 f1 f2 f3 f4 : Nat → Bool} (h : FiveW w wr g f0 f1 f2 f3 f4) (hb : Below wr.heap.size wr w2) : FiveW w w2 g f0 f1 f2 f3 f4 :=
  ⟨h.a.later hb, h.b.later hb, h.c.later hb, h.d.later hb, h.e.later hb⟩
theorem FiveW.turn {w wr : World} {g : Nat} {f0 f1 f2 f3 f4 h2 h3 h4 : Nat → Bool} (h : FiveW w wr g f0 f1 f2 f3 f4) (e2 : cellsB f2 = cellsB h2) (e3 : cellsB f3 = cellsB h3) (e4 : cellsB f4 = cellsB h4) : FiveW w wr g f0 f1 h2 h3 h4 :=
  ⟨h.a, h.b, h.c.turn e2, h.d.turn e3, h.e.turn e4⟩
theorem FiveW.make {w wr : World} {g : Nat} {f0 f1 : Nat → Bool} (h : TwoW w wr g (g + 1) f0 f1) (hs : wr.heap.size = g + 2) (f : Nat → Bool) :
    FiveW w (((wr.alloc (.cells (cellsB f) 24)).alloc (.cells (cellsB f) 24)).alloc (.cells (cellsB f) 24)) g f0 f1 f f f := by
  have n := h.one.new
  have c1 : WantW w (wr.alloc (.cells (cellsB f) 24)) (g + 2) f := by have := WantW.make h.one.below f; rwa [hs] at this
  have z1 : (wr.alloc (.cells (cellsB f) 24)).heap.size = g + 3 := by simp [hs]
  have c2 : WantW w ((wr.alloc (.cells (cellsB f) 24)).alloc (.cells (cellsB f) 24)) (g + 3) f := by have := WantW.make c1.below f; rwa [z1] at this
  have z2 : ((wr.alloc (.cells (cellsB f) 24)).alloc (.cells (cellsB f) 24)).heap.size = g + 4 := by simp [hs]
  have c3 : WantW w (((wr.alloc (.cells (cellsB f) 24)).alloc (.cells (cellsB f) 24)).alloc (.cells (cellsB f) 24)) (g + 4) f := by have := WantW.make c2.below f; rwa [z2] at this
  exact ⟨((h.one.alloc _).alloc _).alloc _, ((h.two.alloc _).alloc _).alloc _, (c1.alloc _).alloc _, c2.alloc _, c3⟩
theorem FiveW.step {w wr : World} {g : Nat} {f0 f1 f2 f3 f4 : Nat → Bool} {k : Nat} (h : FiveW w wr g f0 f1 (upF f2 k) (upF f3 k) (upF f4 k)) :
    FiveW w (((wr.setCell ⟨g + 2, k, none⟩ (.bool (f2 k))).setCell ⟨g + 3, k, none⟩ (.bool (f3 k))).setCell ⟨g + 4, k, none⟩ (.bool (f4 k))) g f0 f1 (upF f2 (k + 1)) (upF f3 (k + 1)) (upF f4 (k + 1)) := by
  have n := h.a.new
  refine ⟨((h.a.far (by omega) (by omega) _ _).far (by omega) (by omega) _ _).far (by omega) (by omega) _ _,
    ((h.b.far (by omega) (by omega) _ _).far (by omega) (by omega) _ _).far (by omega) (by omega) _ _,
    ((h.c.set_ k _ (upF_set f2 k)).far (by omega) (by omega) _ _).far (by omega) (by omega) _ _,
    ((h.d.far (by omega) (by omega) _ _).set_ k _ (upF_set f3 k)).far (by omega) (by omega) _ _,
    ((h.e.far (by omega) (by omega) _ _).far (by omega) (by omega) _ _).set_ k _ (upF_set f4 k)⟩
theorem FiveW.drew {w wr : World} {g : Nat} {f0 f1 f2 f3 f4 : Nat → Bool} (h : FiveW w wr g f0 f1 f2 f3 f4) : FiveW w wr.drew g f0 f1 f2 f3 f4 := h.later (Below.refl _ _).drew
theorem FiveW.ranges {w wr : World} {g : Nat} {f0 f1 f2 f3 f4 : Nat → Bool} {L1 L2 L3 : List Value} (h : FiveW w wr g f0 f1 f2 f3 f4) (e1 : L1.toArray = cellsB f2) (e2 : L2.toArray = cellsB f3) (e3 : L3.toArray = cellsB f4) :
    FiveW w wr g f0 f1 f2 f3 f4 ∧ wr.rangeAt (g + 2) 0 L1 ∧ wr.rangeAt (g + 3) 0 L2 ∧ wr.rangeAt (g + 4) 0 L3 :=
  ⟨h, h.c.range L1 e1, h.d.range L2 e2, h.e.range L3 e3⟩
end Go.Proofs.Ytiinibblfodaaaa
