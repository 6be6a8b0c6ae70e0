/- An instance of the call's own, one number of it stored: still one. -/
import Derived.Test.YtmnbpnjakbihdaaISet
namespace Go.Proofs.Ytmnbpnjakbihdaa
open Go.RowKit

variable {w wr w2 : World} {A : InA} {x m : Ins} {gx B N C D i k : Nat} {VK VT : Nat → Nat} {LK LT L : Nat → Nat → Int} {z : Int} {p : Int × Int}
theorem Fresh.cost_ (h : Fresh wr gx B A x N C D VK VT LK LT) (hi : i < N) (hk : k < N) (z : Int) : Fresh (wr.setCell ⟨VK i, k, none⟩ (.int .i64 z)) gx B A { x with cost := sqL N (putL LK i k z) } N C D VK VT (putL LK i k z) LT := by
  obtain ⟨cur, hg⟩ := rowIs_block (h.own.cost.row i hi).1
  have hD : VK i < D := h.own.kb _ (.inr ⟨i, hi, rfl⟩)
  refine ⟨(heap_setCell_other _ _ _ _ (fun q => blk_types h.box hg (by decide) (show gx = VK i from q))).trans ?_, ⟨own_keep h.own.sats hg (by decide) _ _, own_keep h.own.cus hg (by decide) _ _, h.own.cost.put hi hk z, h.own.time.set_ (i := k) (u := .int .i64 z) hD, rfl, h.own.tk, h.own.nl, h.own.ap, h.own.sb, h.own.kb, h.own.bc, h.own.cd⟩, h.ns, h.nc, h.nn⟩
  rw [h.box]
  simp [insC, sqL_length, h.klen.1]
theorem Fresh.time_ (h : Fresh wr gx B A x N C D VK VT LK LT) (hi : i < N) (hk : k < N) (z : Int) : Fresh (wr.setCell ⟨VT i, k, none⟩ (.int .i64 z)) gx B A { x with time := sqL N (putL LT i k z) } N C D VK VT LK (putL LT i k z) := by
  obtain ⟨cur, hg⟩ := rowIs_block (h.own.time.row i hi).1
  have hD : D ≤ VT i := (h.own.time.row i hi).2
  refine ⟨(heap_setCell_other _ _ _ _ (fun q => blk_types h.box hg (by decide) (show gx = VT i from q))).trans ?_, ⟨own_keep h.own.sats hg (by decide) _ _, own_keep h.own.cus hg (by decide) _ _, h.own.cost.ne_ (b := VT i) (fun e => by have := h.own.kb _ (.inl e); omega) (fun j hj e => by have := h.own.kb _ (.inr ⟨j, hj, e⟩); omega) k (.int .i64 z), h.own.time.put hi hk z, h.own.ck, rfl, h.own.nl, h.own.ap, h.own.sb, h.own.kb, h.own.bc, h.own.cd⟩, h.ns, h.nc, h.nn⟩
  rw [h.box]
  simp [insC, sqL_length, h.klen.2]
theorem Fresh.sat_ (h : Fresh wr gx B A x N C D VK VT LK LT) (hk : x.sats[k]? = some p) (z : Int) : ∃ g, A.sa = some ⟨g, 0, none⟩ ∧ wr.cell? ⟨g, k * 2, none⟩ = some (.int .i64 p.1) ∧ wr.frozen? ⟨g, k * 2, none⟩ = false ∧ Fresh (wr.setCell ⟨g, k * 2, none⟩ (.int .i64 z)) gx B A { x with sats := x.sats.set k (z, p.2) } N C D VK VT LK LT := by
  have hkl := (List.getElem?_eq_some_iff.1 hk).1
  have hs := h.own.sats
  obtain ⟨g, cap, e, hB, _⟩ := owns_some hs (by omega)
  injection e with e1 _ e3
  have hs2 := hs
  rw [e1] at hs2
  obtain ⟨cur, hg⟩ := own_block hs2 (g := g) rfl
  have hn := World.ownsRow.stored hs2 (k * 2) (.int .i64 z)
  have hn1 := hn.1
  rw [flatS_set0 x.sats k p z hk] at hn1
  refine ⟨g, e1, ?_, World.ownsRow.frozenAt hs2 _, (heap_setCell_other _ _ _ _ (fun q => blk_types h.box hg (by decide) (show gx = g from q))).trans ?_, ⟨?_, own_keep h.own.cus hg (by decide) _ _, h.own.cost.keep hg (by decide) (by decide) (k * 2) (.int .i64 z), h.own.time.keep hg (by decide) (by decide) (k * 2) (.int .i64 z), h.own.ck, h.own.tk, h.own.nl, by simpa using h.own.ap, by simpa using h.own.sb, h.own.kb, h.own.bc, h.own.cd⟩, by simpa using h.ns, h.nc, h.nn⟩
  · have := World.ownsRow.cells hs2 (g := g) rfl (k * 2) (.int .i64 p.1) (flatS_get x.sats k p hk).1
    simpa [Addr.add_lit] using this
  · rw [h.box]
    simp [insC]
  · simpa [e1] using hn1
theorem Fresh.hold_ (h : Fresh wr gx B A x N C D VK VT LK LT) (hk : x.sats[k]? = some p) (z : Int) : ∃ g, A.sa = some ⟨g, 0, none⟩ ∧ wr.cell? ⟨g, k * 2 + 1, none⟩ = some (.int .i64 p.2) ∧ wr.frozen? ⟨g, k * 2 + 1, none⟩ = false ∧ Fresh (wr.setCell ⟨g, k * 2 + 1, none⟩ (.int .i64 z)) gx B A { x with sats := x.sats.set k (p.1, z) } N C D VK VT LK LT := by
  have hkl := (List.getElem?_eq_some_iff.1 hk).1
  have hs := h.own.sats
  obtain ⟨g, cap, e, hB, _⟩ := owns_some hs (by omega)
  injection e with e1 _ e3
  have hs2 := hs
  rw [e1] at hs2
  obtain ⟨cur, hg⟩ := own_block hs2 (g := g) rfl
  have hn := World.ownsRow.stored hs2 (k * 2 + 1) (.int .i64 z)
  have hn1 := hn.1
  rw [flatS_set1 x.sats k p z hk] at hn1
  refine ⟨g, e1, ?_, World.ownsRow.frozenAt hs2 _, (heap_setCell_other _ _ _ _ (fun q => blk_types h.box hg (by decide) (show gx = g from q))).trans ?_, ⟨?_, own_keep h.own.cus hg (by decide) _ _, h.own.cost.keep hg (by decide) (by decide) (k * 2 + 1) (.int .i64 z), h.own.time.keep hg (by decide) (by decide) (k * 2 + 1) (.int .i64 z), h.own.ck, h.own.tk, h.own.nl, by simpa using h.own.ap, by simpa using h.own.sb, h.own.kb, h.own.bc, h.own.cd⟩, by simpa using h.ns, h.nc, h.nn⟩
  · have := World.ownsRow.cells hs2 (g := g) rfl (k * 2 + 1) (.int .i64 p.2) (flatS_get x.sats k p hk).2
    simpa [Addr.add_lit] using this
  · rw [h.box]
    simp [insC]
  · simpa [e1] using hn1
theorem Fresh.en_ (h : Fresh wr gx B A x N C D VK VT LK LT) (z : Int) : Fresh (wr.setCell ⟨gx, 0, none⟩ (.int .i64 z)) gx B A { x with en := z } N C D VK VT LK LT :=
  ⟨heap_setCell_same _ _ _ _ _ _ h.box, (h.own.keep h.box (by decide) (by decide) (by decide) (by decide) 0 (.int .i64 z)) |> fun q => ⟨q.sats, q.cus, q.cost, q.time, q.ck, q.tk, q.nl, q.ap, q.sb, q.kb, q.bc, q.cd⟩, h.ns, h.nc, h.nn⟩
theorem Fresh.br_ (h : Fresh wr gx B A x N C D VK VT LK LT) (z : Int) : Fresh (wr.setCell ⟨gx, 4, none⟩ (.int .i64 z)) gx B A { x with br := z } N C D VK VT LK LT :=
  ⟨heap_setCell_same _ _ _ _ _ _ h.box, (h.own.keep h.box (by decide) (by decide) (by decide) (by decide) 4 (.int .i64 z)) |> fun q => ⟨q.sats, q.cus, q.cost, q.time, q.ck, q.tk, q.nl, q.ap, q.sb, q.kb, q.bc, q.cd⟩, h.ns, h.nc, h.nn⟩
theorem Fresh.close_ {c : Pi} (h : Fresh wr gx B A x N C D VK VT LK LT) (hk : x.cus[k]? = some c) (z : Int) : ∃ g, A.ca = some ⟨g, 0, none⟩ ∧ wr.cell? ⟨g, k * 4 + 2, none⟩ = some (.int .i64 c.2.2.1) ∧ wr.frozen? ⟨g, k * 4 + 2, none⟩ = false ∧ Fresh (wr.setCell ⟨g, k * 4 + 2, none⟩ (.int .i64 z)) gx B A { x with cus := x.cus.set k (c.1, c.2.1, z, c.2.2.2) } N C D VK VT LK LT := by
  have hkl := (List.getElem?_eq_some_iff.1 hk).1
  have hs := h.own.cus
  obtain ⟨g, cap, e, hB, _⟩ := owns_some hs (by omega)
  injection e with e1 _ e3
  have hs2 := hs
  rw [e1] at hs2
  obtain ⟨cur, hg⟩ := own_block hs2 (g := g) rfl
  have hn := World.ownsRow.stored hs2 (k * 4 + 2) (.int .i64 z)
  have hn1 := hn.1
  rw [flatC_set2 x.cus k c z hk] at hn1
  refine ⟨g, e1, ?_, World.ownsRow.frozenAt hs2 _, (heap_setCell_other _ _ _ _ (fun q => blk_types h.box hg (by decide) (show gx = g from q))).trans ?_, ⟨own_keep h.own.sats hg (by decide) _ _, ?_, h.own.cost.keep hg (by decide) (by decide) (k * 4 + 2) (.int .i64 z), h.own.time.keep hg (by decide) (by decide) (k * 4 + 2) (.int .i64 z), h.own.ck, h.own.tk, h.own.nl, by simpa using h.own.ap, by simpa using h.own.sb, h.own.kb, h.own.bc, h.own.cd⟩, h.ns, by simpa using h.nc, h.nn⟩
  · have := World.ownsRow.cells hs2 (g := g) rfl (k * 4 + 2) (.int .i64 c.2.2.1) (flatC_get x.cus k c hk).2.2.1
    simpa [Addr.add_lit] using this
  · rw [h.box]
    simp [insC]
  · simpa [e1] using hn1
end Go.Proofs.Ytmnbpnjakbihdaa
