/- An instance of the call's own, its costs, times and satellites' rooms changed again and again. -/
import Derived.Test.YtnnddmojcaicbaaDoorApartT
namespace Go.Proofs.YtnnddmojcaicbaaDoor
open Go.RowKit

variable {w wr w2 : World} {A : InA} {x m : Ins} {gx B N C D i k : Nat} {VK VT : Nat → Nat} {LK LT L : Nat → Nat → Int} {z : Int} {p : Int × Int}
theorem Fresh.cost_ (h : Fresh wr gx B A x N C D VK VT LK LT) (hi : i < N) (hk : k < N) (z : Int) : Fresh (wr.setCell ⟨VK i, k, none⟩ (.int .i64 z)) gx B A { x with cost := sqL N (putL LK i k z) } N C D VK VT (putL LK i k z) LT := by
  obtain ⟨cur, hg⟩ := rowIs_block (h.own.cost.row i hi).1
  have hD : VK i < D := h.own.kb _ (.inr ⟨i, hi, rfl⟩)
  refine ⟨(heap_setCell_other _ _ _ _ (fun q => blk_types h.box hg (by decide) (show gx = VK i from q))).trans ?_, ⟨own_keep h.own.sats hg (by decide) _ _, own_keep h.own.cus hg (by decide) _ _, h.own.cost.put hi hk z, h.own.time.set_ (i := k) (u := .int .i64 z) hD, rfl, h.own.tk, h.own.nl, h.own.ap, h.own.sb, h.own.kb, h.own.bc, h.own.cd⟩, h.ns, h.nc, h.nn⟩
  rw [h.box]
  simp [insC, sqL_length, h.klen.1]
theorem Fresh.time_ (h : Fresh wr gx B A x N C D VK VT LK LT) (hi : i < N) (hk : k < N) (z : Int) : Fresh (wr.setCell ⟨VT i, k, none⟩ (.int .i64 z)) gx B A { x with time := sqL N (putL LT i k z) } N C D VK VT LK (putL LT i k z) := by
  obtain ⟨cur, hg⟩ := rowIs_block (h.own.time.row i hi).1
  have hD : D ≤ VT i := (h.own.time.row i hi).2
  refine ⟨(heap_setCell_other _ _ _ _ (fun q => blk_types h.box hg (by decide) (show gx = VT i from q))).trans ?_, ⟨own_keep h.own.sats hg (by decide) _ _, own_keep h.own.cus hg (by decide) _ _, h.own.cost.ne_ (b := VT i) (fun e => by have := h.own.kb _ (.inl e); omega) (fun j hj e => by have := h.own.kb _ (.inr ⟨j, hj, e⟩); omega) k (.int .i64 z), h.own.time.put hi hk z, h.own.ck, rfl, h.own.nl, h.own.ap, h.own.sb, h.own.kb, h.own.bc, h.own.cd⟩, h.ns, h.nc, h.nn⟩
  rw [h.box]
  simp [insC, sqL_length, h.klen.2]
theorem Fresh.sat_ (h : Fresh wr gx B A x N C D VK VT LK LT) (hk : x.sats[k]? = some p) (z : Int) : ∃ g, A.sa = some ⟨g, 0, none⟩ ∧ wr.cell? ⟨g, k * 2, none⟩ = some (.int .i64 p.1) ∧ wr.frozen? ⟨g, k * 2, none⟩ = false ∧ Fresh (wr.setCell ⟨g, k * 2, none⟩ (.int .i64 z)) gx B A { x with sats := x.sats.set k (z, p.2) } N C D VK VT LK LT := by
  have hkl := (List.getElem?_eq_some_iff.1 hk).1
  have hs := h.own.sats
  obtain ⟨g, cap, e, hB, _⟩ := owns_some hs (by omega)
  injection e with e1 _ e3
  have hs2 := hs
  rw [e1] at hs2
  obtain ⟨cur, hg⟩ := own_block hs2 (g := g) rfl
  have hn := World.ownsRow.stored hs2 (k * 2) (.int .i64 z)
  have hn1 := hn.1
  rw [flatS_set0 x.sats k p z hk] at hn1
  refine ⟨g, e1, ?_, World.ownsRow.frozenAt hs2 _, (heap_setCell_other _ _ _ _ (fun q => blk_types h.box hg (by decide) (show gx = g from q))).trans ?_, ⟨?_, own_keep h.own.cus hg (by decide) _ _, h.own.cost.keep hg (by decide) (by decide) (k * 2) (.int .i64 z), h.own.time.keep hg (by decide) (by decide) (k * 2) (.int .i64 z), h.own.ck, h.own.tk, h.own.nl, by simpa using h.own.ap, by simpa using h.own.sb, h.own.kb, h.own.bc, h.own.cd⟩, by simpa using h.ns, h.nc, h.nn⟩
  · have := World.ownsRow.cells hs2 (g := g) rfl (k * 2) (.int .i64 p.1) (flatS_get x.sats k p hk).1
    simpa [Addr.add_lit] using this
  · rw [h.box]
    simp [insC]
  · simpa [e1] using hn1
theorem may_sq (hs : ∀ (j : Nat) (u : List Int), (sqL N L)[j]? = some u → u.length = N ∧ rowG j u) (hik : i ≠ k) (hz : 0 ≤ z ∧ z ≤ 1000000000) (j : Nat) (u : List Int) (hj : (sqL N (putL L i k z))[j]? = some u) : u.length = N ∧ rowG j u := by
  refine ⟨sqL_mem (List.mem_of_getElem? hj), fun t v hv => ?_⟩
  have hjN := (List.getElem?_eq_some_iff.1 hj).1
  rw [sqL_length] at hjN
  simp [sqL, hjN] at hj
  subst hj
  have htN := (List.getElem?_eq_some_iff.1 hv).1
  simp at htN
  simp [htN] at hv
  subst hv
  unfold putL
  by_cases e : j = i ∧ t = k
  · rw [if_pos e]
    unfold elB
    rw [inB_yes hz.1 hz.2]
    simp [e.1, e.2, hik]
  · rw [if_neg e]
    have h2 : (sqL N L)[j]? = some ((List.range N).map (L j)) := by simp [sqL, hjN]
    exact (hs j _ h2).2 t (L j t) (by simp [htN])
theorem May.cost_ (h : May m) (hN : m.nodes = N) (hc : m.cost = sqL N L) (hik : i ≠ k) (hz : 0 ≤ z ∧ z ≤ 1000000000) : May { m with cost := sqL N (putL L i k z) } := by
  have hn : Ins.nodes { m with cost := sqL N (putL L i k z) } = N := hN
  refine ⟨h.en, h.tm, h.tr, h.bm, h.br, h.ns, h.nc, h.sats, h.cus, by rw [hn]; exact sqL_length _ _, h.lt, fun j u hj => ?_, h.time⟩
  rw [hn]
  refine may_sq (fun j u hj => ?_) hik hz j u hj
  have := h.cost j u (by rw [hc]; exact hj)
  rw [hN] at this
  exact this
theorem May.time_ (h : May m) (hN : m.nodes = N) (hc : m.time = sqL N L) (hik : i ≠ k) (hz : 0 ≤ z ∧ z ≤ 1000000000) : May { m with time := sqL N (putL L i k z) } := by
  have hn : Ins.nodes { m with time := sqL N (putL L i k z) } = N := hN
  refine ⟨h.en, h.tm, h.tr, h.bm, h.br, h.ns, h.nc, h.sats, h.cus, h.lc, by rw [hn]; exact sqL_length _ _, h.cost, fun j u hj => ?_⟩
  rw [hn]
  refine may_sq (fun j u hj => ?_) hik hz j u hj
  have := h.time j u (by rw [hc]; exact hj)
  rw [hN] at this
  exact this
theorem May.sat_ (h : May m) (hp : m.sats[k]? = some p) (hz : 0 ≤ z ∧ z ≤ 1000000000) : May { m with sats := m.sats.set k (z, p.2) } := by
  have hn : Ins.nodes { m with sats := m.sats.set k (z, p.2) } = m.nodes := by simp [Ins.nodes]
  refine ⟨h.en, h.tm, h.tr, h.bm, h.br, ?_, h.nc, ?_, h.cus, by rw [hn]; exact h.lc, by rw [hn]; exact h.lt, fun j u hj => by rw [hn]; exact h.cost j u hj, fun j u hj => by rw [hn]; exact h.time j u hj⟩
  · show 1 ≤ (m.sats.set k _).length ∧ (m.sats.set k _).length ≤ 12
    rw [List.length_set]
    exact h.ns
  · intro q hq
    rcases List.mem_or_eq_of_mem_set hq with e | rfl
    · exact h.sats q e
    · have hc := h.sats p (List.mem_of_getElem? hp)
      unfold satB at hc ⊢
      simp only [Bool.and_eq_true] at hc ⊢
      exact ⟨inB_yes hz.1 hz.2, hc.2⟩
/-- An instance that may be, of the call's own, in its box, of so many nodes. -/
structure Big (wr : World) (gx B : Nat) (A : InA) (x : Ins) (N C D : Nat) (VK VT : Nat → Nat) (LK LT : Nat → Nat → Int) : Prop where
  fr : Fresh wr gx B A x N C D VK VT LK LT
  may : May x
  nodes : x.nodes = N
theorem Big.later (h : Big wr gx B A x N C D VK VT LK LT) (hb : Below wr.heap.size wr w2) : Big w2 gx B A x N C D VK VT LK LT := ⟨h.fr.later hb, h.may, h.nodes⟩
theorem Big.cost_ (h : Big wr gx B A x N C D VK VT LK LT) (hi : i < N) (hk : k < N) (hik : i ≠ k) (hz : 0 ≤ z ∧ z ≤ 1000000000) : Big (wr.setCell ⟨VK i, k, none⟩ (.int .i64 z)) gx B A { x with cost := sqL N (putL LK i k z) } N C D VK VT (putL LK i k z) LT :=
  ⟨h.fr.cost_ hi hk z, h.may.cost_ h.nodes h.fr.own.ck hik hz, h.nodes⟩
theorem Big.time_ (h : Big wr gx B A x N C D VK VT LK LT) (hi : i < N) (hk : k < N) (hik : i ≠ k) (hz : 0 ≤ z ∧ z ≤ 1000000000) : Big (wr.setCell ⟨VT i, k, none⟩ (.int .i64 z)) gx B A { x with time := sqL N (putL LT i k z) } N C D VK VT LK (putL LT i k z) :=
  ⟨h.fr.time_ hi hk z, h.may.time_ h.nodes h.fr.own.tk hik hz, h.nodes⟩
theorem Big.sat_ (h : Big wr gx B A x N C D VK VT LK LT) (hk : x.sats[k]? = some p) (hz : 0 ≤ z ∧ z ≤ 1000000000) : ∃ g, A.sa = some ⟨g, 0, none⟩ ∧ wr.cell? ⟨g, k * 2, none⟩ = some (.int .i64 p.1) ∧ wr.frozen? ⟨g, k * 2, none⟩ = false ∧ Big (wr.setCell ⟨g, k * 2, none⟩ (.int .i64 z)) gx B A { x with sats := x.sats.set k (z, p.2) } N C D VK VT LK LT := by
  obtain ⟨g, e, h1, h2, h3⟩ := h.fr.sat_ hk z
  exact ⟨g, e, h1, h2, h3, h.may.sat_ hk hz, by simpa [Ins.nodes] using h.nodes⟩
variable {len : Nat} {zs : List Int} {a : Option Addr}
/-- A slice of uint32. -/
def IsU32 (B : Nat) (w : World) (a : Option Addr) (len : Nat) (ws : List Int) : Prop := ws.length = len ∧ (∀ x ∈ ws, 0 ≤ x ∧ x ≤ 4294967295) ∧ (len = 0 ∨ ∃ b off, a = some ⟨b, off, none⟩ ∧ b < B ∧ ∀ (j : Nat) (x : Int), ws[j]? = some x → w.cell? ⟨b, off + j, none⟩ = some (.int .u32 x))
theorem IsU32.later (h : IsU32 B w a len zs) (hb : Below B w w2) : IsU32 B w2 a len zs := ⟨h.1, h.2.1, by
  rcases h.2.2 with h | ⟨b, off, e, h1, h2⟩
  · exact .inl h
  · exact .inr ⟨b, off, e, h1, fun j x hx => (hb.cell (p := ⟨b, off + j, none⟩) h1).trans (h2 j x hx)⟩⟩
theorem IsU32.mono {B2 : Nat} (h : IsU32 B w a len zs) (hb : B ≤ B2) : IsU32 B2 w a len zs := ⟨h.1, h.2.1, by
  rcases h.2.2 with h | ⟨b, off, e, h1, h2⟩
  · exact .inl h
  · exact .inr ⟨b, off, e, by omega, h2⟩⟩
theorem IsU32.at_ {B : Nat} (h : IsU32 B w a len zs) (hk : k < len) : ∃ b off x, a = some ⟨b, off, none⟩ ∧ zs[k]? = some x ∧ (0 ≤ x ∧ x ≤ 4294967295) ∧ w.cell? ⟨b, off + k, none⟩ = some (.int .u32 x) := by
  obtain ⟨h1, h3, h2⟩ := h
  subst h1
  rcases h2 with h2 | ⟨b, off, e, hb, hr⟩
  · omega
  · exact ⟨b, off, _, e, List.getElem?_eq_getElem hk, h3 _ (List.getElem_mem hk), hr k _ (List.getElem?_eq_getElem hk)⟩
/-- The loop: what was written lies behind the call's beginning. -/
def Inv (w wr : World) (gx : Nat) (A : InA) (N ln : Nat) : Prop := ∃ B C D VK VT LK LT x, Big wr gx B A x N C D VK VT LK LT ∧ w.heap.size ≤ B ∧ Below w.heap.size w wr ∧ x.sats.length = ln
theorem nodesB (A : InA) (x : Ins) (N : Nat) (hN : x.nodes = N) (w : World) (h : x.sats.length + x.cus.length ≤ 1000) :
    Calls Tryd.prog 14 #[.agg (insC A x)] w fun e w' => e = .returned (.int .i64 (N : Int)) ∧ Below w.heap.size w w' := by
  have h1 := nodes_law x.en x.tm x.tr x.bm x.br A.sa x.sats.length A.sc A.ca x.cus.length A.cc A.ka A.ta x.cost.length A.kc x.time.length A.tc w h
  rw [← hN]
  exact h1
end Go.Proofs.YtnnddmojcaicbaaDoor
