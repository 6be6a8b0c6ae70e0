/- An instance of the call's own, one number of it stored: what it is then. -/
import Derived.Test.YtmnbpnjakbihdaaSBox
namespace Go.Proofs.Ytmnbpnjakbihdaa
open Go.RowKit

variable {w wr : World} {A : InA} {x : Ins} {B N C D b i k j g sz n : Nat} {VK VT V : Nat → Nat} {LK LT L : Nat → Nat → Int} {T Tb : TypeId} {u v : Value} {cb : Array Value} {xs : List Value} {z : Int} {p : Int × Int} {c : Pi}
theorem own_block (h : w.ownsRow B T sz v n xs) (hg : v.ownBlock = some g) : ∃ cur, w.heap[g]? = some (.cells cur T (0, 0)) := by
  rcases h.2 with ⟨rfl, _⟩ | ⟨g1, c1, cur, rfl, _, e1, _⟩
  · cases hg
  · injection hg with hg
    change g1 = g at hg
    subst hg
    exact ⟨cur, e1⟩
theorem blk_types {c1 c2 : Array Value} {T1 T2 : TypeId} {g1 g2 : Nat} (h1 : w.heap[g1]? = some (.cells c1 T1 (0, 0))) (h2 : w.heap[g2]? = some (.cells c2 T2 (0, 0))) (hT : ¬ T1 = T2) : g1 ≠ g2 := by
  intro e
  subst e
  rw [h1] at h2
  injection h2 with h2
  injection h2 with _ h2
  exact hT h2
theorem own_keep (h : w.ownsRow B T sz v n xs) (hb : w.heap[b]? = some (.cells cb Tb (0, 0))) (hT : ¬ T = Tb) (i : Nat) (u : Value) : (w.setCell ⟨b, i, none⟩ u).ownsRow B T sz v n xs :=
  ownsRow_setCell_other (a := ⟨b, i, none⟩) h (fun e => by
    obtain ⟨cur, hc⟩ := own_block h e
    exact blk_types hc hb hT rfl) u
theorem rowIs_block {f : Nat → Value} (h : w.rowIs g T n f) : ∃ cur, w.heap[g]? = some (.cells cur T (0, 0)) := by
  obtain ⟨cur, h1, _⟩ := h
  exact ⟨cur, h1⟩
theorem OwnSq.keep (h : OwnSq B w v n N V L) (hb : w.heap[b]? = some (.cells cb Tb (0, 0))) (h1 : ¬ Tb = 60) (h2 : ¬ Tb = 2) (i : Nat) (u : Value) : OwnSq B (w.setCell ⟨b, i, none⟩ u) v n N V L :=
  ⟨own_keep h.outer hb (fun e => h1 e.symm) i u, fun k hk => ⟨(h.row k hk).1.setOther (a := ⟨b, i, none⟩) (by
    obtain ⟨cur, hc⟩ := rowIs_block (h.row k hk).1
    exact blk_types hc hb (fun e => h2 e.symm)) u, (h.row k hk).2⟩, h.inj, h.out⟩
theorem OwnIns.keep (h : OwnIns B w A x N C D VK VT LK LT) (hb : w.heap[b]? = some (.cells cb Tb (0, 0))) (h1 : ¬ Tb = 60) (h2 : ¬ Tb = 2) (h3 : ¬ Tb = 80) (h4 : ¬ Tb = 68) (i : Nat) (u : Value) : OwnIns B (w.setCell ⟨b, i, none⟩ u) A x N C D VK VT LK LT :=
  ⟨own_keep h.sats hb (fun e => h3 e.symm) i u, own_keep h.cus hb (fun e => h4 e.symm) i u, h.cost.keep hb h1 h2 i u, h.time.keep hb h1 h2 i u, h.ck, h.tk, h.nl, h.ap, h.sb, h.kb, h.bc, h.cd⟩
theorem OwnIns.later {w2 : World} (h : OwnIns B w A x N C D VK VT LK LT) (hb : Below w.heap.size w w2) : OwnIns B w2 A x N C D VK VT LK LT :=
  ⟨owns_below h.sats hb, owns_below h.cus hb, h.cost.later hb, h.time.later hb, h.ck, h.tk, h.nl, h.ap, h.sb, h.kb, h.bc, h.cd⟩
/-- One number of a square. -/
def putL (L : Nat → Nat → Int) (i k : Nat) (z : Int) : Nat → Nat → Int := fun i2 k2 => if i2 = i ∧ k2 = k then z else L i2 k2
def sqL (N : Nat) (L : Nat → Nat → Int) : List (List Int) := (List.range N).map (fun i => (List.range N).map (L i))
theorem sqL_length (N : Nat) (L : Nat → Nat → Int) : (sqL N L).length = N := by simp [sqL]
theorem sqL_mem {r : List Int} (h : r ∈ sqL N L) : r.length = N := by
  simp only [sqL, List.mem_map] at h
  obtain ⟨i, _, rfl⟩ := h
  simp
theorem OwnSq.put (h : OwnSq B w v n N V L) (hi : i < n) (_hk : k < N) (z : Int) : OwnSq B (w.setCell ⟨V i, k, none⟩ (.int .i64 z)) v n N V (putL L i k z) := by
  refine ⟨ownsRow_setCell_other (a := ⟨V i, k, none⟩) h.outer (h.out i hi) _, fun j hj => ⟨?_, (h.row j hj).2⟩, h.inj, h.out⟩
  by_cases e : j = i
  · subst e
    refine ((h.row j hj).1.set k (.int .i64 z)).congr (fun t ht => ?_)
    unfold putL
    by_cases e2 : t = k
    · simp [e2]
    · simp [e2]
  · refine ((h.row j hj).1.setOther (a := ⟨V i, k, none⟩) (fun e2 => e (h.inj j i hj hi e2)) _).congr (fun t ht => ?_)
    simp [putL, e]
theorem OwnSq.ne_ (h : OwnSq B w v n N V L) (h1 : ¬ v.ownBlock = some b) (h2 : ∀ j, j < n → V j ≠ b) (i : Nat) (u : Value) : OwnSq B (w.setCell ⟨b, i, none⟩ u) v n N V L :=
  ⟨ownsRow_setCell_other (a := ⟨b, i, none⟩) h.outer h1 u, fun k hk => ⟨(h.row k hk).1.setOther (a := ⟨b, i, none⟩) (h2 k hk) u, (h.row k hk).2⟩, h.inj, h.out⟩
theorem OwnSq.is_ {a : Option Addr} {cap : Nat} (h : OwnSq B w (.slice a N cap) N N V L) (hN : N ≤ 1000) : IsRows w.heap.size w a (sqL N L).length (sqL N L) := by
  obtain ⟨a2, c2, e, hr⟩ := h.rows hN
  injection e with e1 _ _
  subst e1
  rw [sqL_length]
  exact hr
theorem flatS_set0 : ∀ (l : List (Int × Int)) (k : Nat) (p : Int × Int) (z : Int), l[k]? = some p → (flatS l).set (k * 2) (.int .i64 z) = flatS (l.set k (z, p.2))
  | [], k, p, z, h => by simp at h
  | y :: r, 0, p, z, h => by
    simp at h
    subst h
    rfl
  | y :: r, k + 1, p, z, h => by
    have ih := flatS_set0 r k p z (by simpa using h)
    rw [List.set_cons_succ, flatS, flatS, List.flatMap_cons, List.flatMap_cons, ← flatS, ← flatS, ← ih]
    show ([Value.int .i64 y.1, .int .i64 y.2] ++ flatS r).set ((k + 1) * 2) _ = _
    rw [show (k + 1) * 2 = k * 2 + 1 + 1 by omega]
    rfl
theorem flatS_set1 : ∀ (l : List (Int × Int)) (k : Nat) (p : Int × Int) (z : Int), l[k]? = some p → (flatS l).set (k * 2 + 1) (.int .i64 z) = flatS (l.set k (p.1, z))
  | [], k, p, z, h => by simp at h
  | y :: r, 0, p, z, h => by
    simp at h
    subst h
    rfl
  | y :: r, k + 1, p, z, h => by
    have ih := flatS_set1 r k p z (by simpa using h)
    rw [List.set_cons_succ, flatS, flatS, List.flatMap_cons, List.flatMap_cons, ← flatS, ← flatS, ← ih]
    show ([Value.int .i64 y.1, .int .i64 y.2] ++ flatS r).set ((k + 1) * 2 + 1) _ = _
    rw [show (k + 1) * 2 + 1 = k * 2 + 1 + 1 + 1 by omega]
    rfl
theorem flatC_set0 : ∀ (l : List Pi) (k : Nat) (p : Pi) (z : Int), l[k]? = some p → (flatC l).set (k * 4) (.int .i64 z) = flatC (l.set k (z, p.2.1, p.2.2.1, p.2.2.2))
  | [], k, p, z, h => by simp at h
  | y :: r, 0, p, z, h => by
    simp at h
    subst h
    rfl
  | y :: r, k + 1, p, z, h => by
    have ih := flatC_set0 r k p z (by simpa using h)
    rw [List.set_cons_succ, flatC, flatC, List.flatMap_cons, List.flatMap_cons, ← flatC, ← flatC, ← ih]
    show ([Value.int .i64 y.1, .int .i64 y.2.1, .int .i64 y.2.2.1, .int .i64 y.2.2.2] ++ flatC r).set ((k + 1) * 4) _ = _
    rw [show (k + 1) * 4 = k * 4 + 1 + 1 + 1 + 1 by omega]
    rfl
theorem flatC_set1 : ∀ (l : List Pi) (k : Nat) (p : Pi) (z : Int), l[k]? = some p → (flatC l).set (k * 4 + 1) (.int .i64 z) = flatC (l.set k (p.1, z, p.2.2.1, p.2.2.2))
  | [], k, p, z, h => by simp at h
  | y :: r, 0, p, z, h => by
    simp at h
    subst h
    rfl
  | y :: r, k + 1, p, z, h => by
    have ih := flatC_set1 r k p z (by simpa using h)
    rw [List.set_cons_succ, flatC, flatC, List.flatMap_cons, List.flatMap_cons, ← flatC, ← flatC, ← ih]
    show ([Value.int .i64 y.1, .int .i64 y.2.1, .int .i64 y.2.2.1, .int .i64 y.2.2.2] ++ flatC r).set ((k + 1) * 4 + 1) _ = _
    rw [show (k + 1) * 4 + 1 = k * 4 + 1 + 1 + 1 + 1 + 1 by omega]
    rfl
theorem flatC_set2 : ∀ (l : List Pi) (k : Nat) (p : Pi) (z : Int), l[k]? = some p → (flatC l).set (k * 4 + 2) (.int .i64 z) = flatC (l.set k (p.1, p.2.1, z, p.2.2.2))
  | [], k, p, z, h => by simp at h
  | y :: r, 0, p, z, h => by
    simp at h
    subst h
    rfl
  | y :: r, k + 1, p, z, h => by
    have ih := flatC_set2 r k p z (by simpa using h)
    rw [List.set_cons_succ, flatC, flatC, List.flatMap_cons, List.flatMap_cons, ← flatC, ← flatC, ← ih]
    show ([Value.int .i64 y.1, .int .i64 y.2.1, .int .i64 y.2.2.1, .int .i64 y.2.2.2] ++ flatC r).set ((k + 1) * 4 + 2) _ = _
    rw [show (k + 1) * 4 + 2 = k * 4 + 2 + 1 + 1 + 1 + 1 by omega]
    rfl
theorem flatC_set3 : ∀ (l : List Pi) (k : Nat) (p : Pi) (z : Int), l[k]? = some p → (flatC l).set (k * 4 + 3) (.int .i64 z) = flatC (l.set k (p.1, p.2.1, p.2.2.1, z))
  | [], k, p, z, h => by simp at h
  | y :: r, 0, p, z, h => by
    simp at h
    subst h
    rfl
  | y :: r, k + 1, p, z, h => by
    have ih := flatC_set3 r k p z (by simpa using h)
    rw [List.set_cons_succ, flatC, flatC, List.flatMap_cons, List.flatMap_cons, ← flatC, ← flatC, ← ih]
    show ([Value.int .i64 y.1, .int .i64 y.2.1, .int .i64 y.2.2.1, .int .i64 y.2.2.2] ++ flatC r).set ((k + 1) * 4 + 3) _ = _
    rw [show (k + 1) * 4 + 3 = k * 4 + 3 + 1 + 1 + 1 + 1 by omega]
    rfl
/-- What is there in the end: the instance's box, its rows; it is small. -/
structure Fin (wr : World) (gx : Nat) (A : InA) (m : Ins) : Prop where
  box : wr.heap[gx]? = some (.cells (insC A m) 37 (0, 0))
  is_ : IsIns wr.heap.size wr A m
  light : m.light = true
theorem Fin.later {w2 : World} {gx : Nat} {m : Ins} (h : Fin wr gx A m) (hb : Below wr.heap.size wr w2) : Fin w2 gx A m := ⟨(hb.block _ (Array.getElem?_eq_some_iff.1 h.box).1).trans h.box, (h.is_.later hb).mono hb.size, h.light⟩
theorem Fin.cells {gx : Nat} {m : Ins} (h : Fin wr gx A m) : wr.cell? ⟨gx, 0, none⟩ = some (.int .i64 m.en) ∧ wr.cell? ⟨gx, 1, none⟩ = some (.int .i64 m.tm) ∧ wr.cell? ⟨gx, 2, none⟩ = some (.int .i64 m.tr) ∧ wr.cell? ⟨gx, 3, none⟩ = some (.int .i64 m.bm) ∧ wr.cell? ⟨gx, 4, none⟩ = some (.int .i64 m.br) ∧
    wr.cell? ⟨gx, 5, none⟩ = some (.slice A.sa m.sats.length A.sc) ∧ wr.cell? ⟨gx, 6, none⟩ = some (.slice A.ca m.cus.length A.cc) ∧ wr.cell? ⟨gx, 7, none⟩ = some (.slice A.ka m.cost.length A.kc) ∧ wr.cell? ⟨gx, 8, none⟩ = some (.slice A.ta m.time.length A.tc) := by
  simp [World.cell?, h.box]
/-- An instance that was just made, in its box. -/
structure Fresh (wr : World) (gx B : Nat) (A : InA) (x : Ins) (N C D : Nat) (VK VT : Nat → Nat) (LK LT : Nat → Nat → Int) : Prop where
  box : wr.heap[gx]? = some (.cells (insC A x) 37 (0, 0))
  own : OwnIns B wr A x N C D VK VT LK LT
  ns : x.sats.length ≤ 3
  nc : x.cus.length ≤ 6
  nn : N ≤ 10
variable {gx : Nat}
theorem Fresh.klen (h : Fresh wr gx B A x N C D VK VT LK LT) : x.cost.length = N ∧ x.time.length = N := by
  rw [h.own.ck, h.own.tk]
  simp
theorem Fresh.later {w2 : World} (h : Fresh wr gx B A x N C D VK VT LK LT) (hb : Below wr.heap.size wr w2) : Fresh w2 gx B A x N C D VK VT LK LT := ⟨(hb.block _ (Array.getElem?_eq_some_iff.1 h.box).1).trans h.box, h.own.later hb, h.ns, h.nc, h.nn⟩
theorem Fresh.light_ (_h : Fresh wr gx B A x N C D VK VT LK LT) {m : Ins} (h1 : m.sats.length ≤ 4) (h2 : m.cus.length ≤ 6) (h3 : m.cost.length ≤ 10) (h4 : m.time.length ≤ 10) (h5 : ∀ r ∈ m.cost, r.length ≤ 11) (h6 : ∀ r ∈ m.time, r.length ≤ 11) : m.light = true :=
  light_of (by omega) (by omega) (by omega) (by omega) (fun r hr => Nat.le_trans (h5 r hr) (by omega)) (fun r hr => Nat.le_trans (h6 r hr) (by omega))
theorem Fresh.rowsK (h : Fresh wr gx B A x N C D VK VT LK LT) : ∀ r ∈ x.cost, r.length ≤ 11 := fun r hr => by
  rw [h.own.ck] at hr
  have := sqL_mem (N := N) (L := LK) hr
  have := h.nn
  omega
theorem Fresh.rowsT (h : Fresh wr gx B A x N C D VK VT LK LT) : ∀ r ∈ x.time, r.length ≤ 11 := fun r hr => by
  rw [h.own.tk] at hr
  have := sqL_mem (N := N) (L := LT) hr
  have := h.nn
  omega
theorem Fresh.fin (h : Fresh wr gx B A x N C D VK VT LK LT) : Fin wr gx A x :=
  ⟨h.box, h.own.is_, h.light_ (by have := h.ns; omega) h.nc (by rw [h.klen.1]; exact h.nn) (by rw [h.klen.2]; exact h.nn) h.rowsK h.rowsT⟩
theorem Fresh.frozen (h : Fresh wr gx B A x N C D VK VT LK LT) (k : Nat) : wr.frozen? ⟨gx, k, none⟩ = false := by simp [World.frozen?, h.box]
theorem Fresh.put_en (h : Fresh wr gx B A x N C D VK VT LK LT) (z : Int) : Fin (wr.setCell ⟨gx, 0, none⟩ (.int .i64 z)) gx A { x with en := z } :=
  ⟨heap_setCell_same _ _ _ _ _ _ h.box, (h.own.keep h.box (by decide) (by decide) (by decide) (by decide) 0 (.int .i64 z)).is_ |> fun q => ⟨q.sats, q.cus, q.cost, q.time⟩, h.light_ (by have := h.ns; show x.sats.length ≤ 4; omega) h.nc (by show x.cost.length ≤ 10; rw [h.klen.1]; exact h.nn) (by show x.time.length ≤ 10; rw [h.klen.2]; exact h.nn) h.rowsK h.rowsT⟩
theorem Fresh.put_tm (h : Fresh wr gx B A x N C D VK VT LK LT) (z : Int) : Fin (wr.setCell ⟨gx, 1, none⟩ (.int .i64 z)) gx A { x with tm := z } :=
  ⟨heap_setCell_same _ _ _ _ _ _ h.box, (h.own.keep h.box (by decide) (by decide) (by decide) (by decide) 1 (.int .i64 z)).is_ |> fun q => ⟨q.sats, q.cus, q.cost, q.time⟩, h.light_ (by have := h.ns; show x.sats.length ≤ 4; omega) h.nc (by show x.cost.length ≤ 10; rw [h.klen.1]; exact h.nn) (by show x.time.length ≤ 10; rw [h.klen.2]; exact h.nn) h.rowsK h.rowsT⟩
theorem Fresh.put_tr (h : Fresh wr gx B A x N C D VK VT LK LT) (z : Int) : Fin (wr.setCell ⟨gx, 2, none⟩ (.int .i64 z)) gx A { x with tr := z } :=
  ⟨heap_setCell_same _ _ _ _ _ _ h.box, (h.own.keep h.box (by decide) (by decide) (by decide) (by decide) 2 (.int .i64 z)).is_ |> fun q => ⟨q.sats, q.cus, q.cost, q.time⟩, h.light_ (by have := h.ns; show x.sats.length ≤ 4; omega) h.nc (by show x.cost.length ≤ 10; rw [h.klen.1]; exact h.nn) (by show x.time.length ≤ 10; rw [h.klen.2]; exact h.nn) h.rowsK h.rowsT⟩
theorem Fresh.put_bm (h : Fresh wr gx B A x N C D VK VT LK LT) (z : Int) : Fin (wr.setCell ⟨gx, 3, none⟩ (.int .i64 z)) gx A { x with bm := z } :=
  ⟨heap_setCell_same _ _ _ _ _ _ h.box, (h.own.keep h.box (by decide) (by decide) (by decide) (by decide) 3 (.int .i64 z)).is_ |> fun q => ⟨q.sats, q.cus, q.cost, q.time⟩, h.light_ (by have := h.ns; show x.sats.length ≤ 4; omega) h.nc (by show x.cost.length ≤ 10; rw [h.klen.1]; exact h.nn) (by show x.time.length ≤ 10; rw [h.klen.2]; exact h.nn) h.rowsK h.rowsT⟩
theorem Fresh.put_br (h : Fresh wr gx B A x N C D VK VT LK LT) (z : Int) : Fin (wr.setCell ⟨gx, 4, none⟩ (.int .i64 z)) gx A { x with br := z } :=
  ⟨heap_setCell_same _ _ _ _ _ _ h.box, (h.own.keep h.box (by decide) (by decide) (by decide) (by decide) 4 (.int .i64 z)).is_ |> fun q => ⟨q.sats, q.cus, q.cost, q.time⟩, h.light_ (by have := h.ns; show x.sats.length ≤ 4; omega) h.nc (by show x.cost.length ≤ 10; rw [h.klen.1]; exact h.nn) (by show x.time.length ≤ 10; rw [h.klen.2]; exact h.nn) h.rowsK h.rowsT⟩
theorem Fresh.put_sat0 (h : Fresh wr gx B A x N C D VK VT LK LT) (hk : x.sats[k]? = some p) (z : Int) : ∃ g, A.sa = some ⟨g, 0, none⟩ ∧ wr.cell? ⟨g, k * 2, none⟩ = some (.int .i64 p.1) ∧ wr.frozen? ⟨g, k * 2, none⟩ = false ∧ Fin (wr.setCell ⟨g, k * 2, none⟩ (.int .i64 z)) gx A { x with sats := x.sats.set k (z, p.2) } := by
  have hkl := (List.getElem?_eq_some_iff.1 hk).1
  have hs := h.own.sats
  obtain ⟨g, cap, e, hB, _⟩ := owns_some hs (by omega)
  injection e with e1 _ e3
  have hs2 := hs
  rw [e1] at hs2
  obtain ⟨cur, hg⟩ := own_block hs2 (g := g) rfl
  have hn := World.ownsRow.stored hs2 (k * 2) (.int .i64 z)
  have hn1 := hn.1
  rw [flatS_set0 x.sats k p z hk] at hn1
  refine ⟨g, e1, ?_, World.ownsRow.frozenAt hs2 _, (heap_setCell_other _ _ _ _ (fun q => blk_types h.box hg (by decide) (show gx = g from q))).trans ?_, ⟨?_, ?_, ?_, ?_⟩, ?_⟩
  · have := World.ownsRow.cells hs2 (g := g) rfl (k * 2) (.int .i64 p.1) (flatS_get x.sats k p hk).1
    simpa [Addr.add_lit] using this
  · rw [h.box]
    simp [insC]
  · have := owns_sats (a := A.sa) (cap := A.sc) (n := x.sats.length) (by rw [e1]; exact hn1) (by simp)
    simpa using this
  · exact owns_cus (own_keep h.own.cus hg (by decide) _ _) rfl
  · have hq : IsRows _ _ _ _ _ := (h.own.cost.keep hg (by decide) (by decide) (k * 2) (.int .i64 z)).is_ h.own.nl
    have e9 : sqL N LK = x.cost := h.own.ck.symm
    rw [e9] at hq
    exact hq
  · have hq : IsRows _ _ _ _ _ := (h.own.time.keep hg (by decide) (by decide) (k * 2) (.int .i64 z)).is_ h.own.nl
    have e9 : sqL N LT = x.time := h.own.tk.symm
    rw [e9] at hq
    exact hq
  · exact h.light_ (by have := h.ns; simp; omega) h.nc (by show x.cost.length ≤ 10; rw [h.klen.1]; exact h.nn) (by show x.time.length ≤ 10; rw [h.klen.2]; exact h.nn) h.rowsK h.rowsT
theorem Fresh.put_sat1 (h : Fresh wr gx B A x N C D VK VT LK LT) (hk : x.sats[k]? = some p) (z : Int) : ∃ g, A.sa = some ⟨g, 0, none⟩ ∧ wr.cell? ⟨g, k * 2 + 1, none⟩ = some (.int .i64 p.2) ∧ wr.frozen? ⟨g, k * 2 + 1, none⟩ = false ∧ Fin (wr.setCell ⟨g, k * 2 + 1, none⟩ (.int .i64 z)) gx A { x with sats := x.sats.set k (p.1, z) } := by
  have hkl := (List.getElem?_eq_some_iff.1 hk).1
  have hs := h.own.sats
  obtain ⟨g, cap, e, hB, _⟩ := owns_some hs (by omega)
  injection e with e1 _ e3
  have hs2 := hs
  rw [e1] at hs2
  obtain ⟨cur, hg⟩ := own_block hs2 (g := g) rfl
  have hn := World.ownsRow.stored hs2 (k * 2 + 1) (.int .i64 z)
  have hn1 := hn.1
  rw [flatS_set1 x.sats k p z hk] at hn1
  refine ⟨g, e1, ?_, World.ownsRow.frozenAt hs2 _, (heap_setCell_other _ _ _ _ (fun q => blk_types h.box hg (by decide) (show gx = g from q))).trans ?_, ⟨?_, ?_, ?_, ?_⟩, ?_⟩
  · have := World.ownsRow.cells hs2 (g := g) rfl (k * 2 + 1) (.int .i64 p.2) (flatS_get x.sats k p hk).2
    simpa [Addr.add_lit] using this
  · rw [h.box]
    simp [insC]
  · have := owns_sats (a := A.sa) (cap := A.sc) (n := x.sats.length) (by rw [e1]; exact hn1) (by simp)
    simpa using this
  · exact owns_cus (own_keep h.own.cus hg (by decide) _ _) rfl
  · have hq : IsRows _ _ _ _ _ := (h.own.cost.keep hg (by decide) (by decide) (k * 2 + 1) (.int .i64 z)).is_ h.own.nl
    have e9 : sqL N LK = x.cost := h.own.ck.symm
    rw [e9] at hq
    exact hq
  · have hq : IsRows _ _ _ _ _ := (h.own.time.keep hg (by decide) (by decide) (k * 2 + 1) (.int .i64 z)).is_ h.own.nl
    have e9 : sqL N LT = x.time := h.own.tk.symm
    rw [e9] at hq
    exact hq
  · exact h.light_ (by have := h.ns; simp; omega) h.nc (by show x.cost.length ≤ 10; rw [h.klen.1]; exact h.nn) (by show x.time.length ≤ 10; rw [h.klen.2]; exact h.nn) h.rowsK h.rowsT
theorem Fresh.put_cus0 (h : Fresh wr gx B A x N C D VK VT LK LT) (hk : x.cus[k]? = some c) (z : Int) : ∃ g, A.ca = some ⟨g, 0, none⟩ ∧ wr.cell? ⟨g, k * 4, none⟩ = some (.int .i64 c.1) ∧ wr.frozen? ⟨g, k * 4, none⟩ = false ∧ Fin (wr.setCell ⟨g, k * 4, none⟩ (.int .i64 z)) gx A { x with cus := x.cus.set k (z, c.2.1, c.2.2.1, c.2.2.2) } := by
  have hkl := (List.getElem?_eq_some_iff.1 hk).1
  have hs := h.own.cus
  obtain ⟨g, cap, e, hB, _⟩ := owns_some hs (by omega)
  injection e with e1 _ e3
  have hs2 := hs
  rw [e1] at hs2
  obtain ⟨cur, hg⟩ := own_block hs2 (g := g) rfl
  have hn := World.ownsRow.stored hs2 (k * 4) (.int .i64 z)
  have hn1 := hn.1
  rw [flatC_set0 x.cus k c z hk] at hn1
  refine ⟨g, e1, ?_, World.ownsRow.frozenAt hs2 _, (heap_setCell_other _ _ _ _ (fun q => blk_types h.box hg (by decide) (show gx = g from q))).trans ?_, ⟨?_, ?_, ?_, ?_⟩, ?_⟩
  · have := World.ownsRow.cells hs2 (g := g) rfl (k * 4) (.int .i64 c.1) (flatC_get x.cus k c hk).1
    simpa [Addr.add_lit] using this
  · rw [h.box]
    simp [insC]
  · exact owns_sats (own_keep h.own.sats hg (by decide) _ _) rfl
  · have := owns_cus (a := A.ca) (cap := A.cc) (n := x.cus.length) (by rw [e1]; exact hn1) (by simp)
    simpa using this
  · have hq : IsRows _ _ _ _ _ := (h.own.cost.keep hg (by decide) (by decide) (k * 4) (.int .i64 z)).is_ h.own.nl
    have e9 : sqL N LK = x.cost := h.own.ck.symm
    rw [e9] at hq
    exact hq
  · have hq : IsRows _ _ _ _ _ := (h.own.time.keep hg (by decide) (by decide) (k * 4) (.int .i64 z)).is_ h.own.nl
    have e9 : sqL N LT = x.time := h.own.tk.symm
    rw [e9] at hq
    exact hq
  · exact h.light_ (by have := h.ns; show x.sats.length ≤ 4; omega) (by have := h.nc; simpa using this) (by show x.cost.length ≤ 10; rw [h.klen.1]; exact h.nn) (by show x.time.length ≤ 10; rw [h.klen.2]; exact h.nn) h.rowsK h.rowsT
theorem Fresh.put_cus1 (h : Fresh wr gx B A x N C D VK VT LK LT) (hk : x.cus[k]? = some c) (z : Int) : ∃ g, A.ca = some ⟨g, 0, none⟩ ∧ wr.cell? ⟨g, k * 4 + 1, none⟩ = some (.int .i64 c.2.1) ∧ wr.frozen? ⟨g, k * 4 + 1, none⟩ = false ∧ Fin (wr.setCell ⟨g, k * 4 + 1, none⟩ (.int .i64 z)) gx A { x with cus := x.cus.set k (c.1, z, c.2.2.1, c.2.2.2) } := by
  have hkl := (List.getElem?_eq_some_iff.1 hk).1
  have hs := h.own.cus
  obtain ⟨g, cap, e, hB, _⟩ := owns_some hs (by omega)
  injection e with e1 _ e3
  have hs2 := hs
  rw [e1] at hs2
  obtain ⟨cur, hg⟩ := own_block hs2 (g := g) rfl
  have hn := World.ownsRow.stored hs2 (k * 4 + 1) (.int .i64 z)
  have hn1 := hn.1
  rw [flatC_set1 x.cus k c z hk] at hn1
  refine ⟨g, e1, ?_, World.ownsRow.frozenAt hs2 _, (heap_setCell_other _ _ _ _ (fun q => blk_types h.box hg (by decide) (show gx = g from q))).trans ?_, ⟨?_, ?_, ?_, ?_⟩, ?_⟩
  · have := World.ownsRow.cells hs2 (g := g) rfl (k * 4 + 1) (.int .i64 c.2.1) (flatC_get x.cus k c hk).2.1
    simpa [Addr.add_lit] using this
  · rw [h.box]
    simp [insC]
  · exact owns_sats (own_keep h.own.sats hg (by decide) _ _) rfl
  · have := owns_cus (a := A.ca) (cap := A.cc) (n := x.cus.length) (by rw [e1]; exact hn1) (by simp)
    simpa using this
  · have hq : IsRows _ _ _ _ _ := (h.own.cost.keep hg (by decide) (by decide) (k * 4 + 1) (.int .i64 z)).is_ h.own.nl
    have e9 : sqL N LK = x.cost := h.own.ck.symm
    rw [e9] at hq
    exact hq
  · have hq : IsRows _ _ _ _ _ := (h.own.time.keep hg (by decide) (by decide) (k * 4 + 1) (.int .i64 z)).is_ h.own.nl
    have e9 : sqL N LT = x.time := h.own.tk.symm
    rw [e9] at hq
    exact hq
  · exact h.light_ (by have := h.ns; show x.sats.length ≤ 4; omega) (by have := h.nc; simpa using this) (by show x.cost.length ≤ 10; rw [h.klen.1]; exact h.nn) (by show x.time.length ≤ 10; rw [h.klen.2]; exact h.nn) h.rowsK h.rowsT
theorem Fresh.put_cus2 (h : Fresh wr gx B A x N C D VK VT LK LT) (hk : x.cus[k]? = some c) (z : Int) : ∃ g, A.ca = some ⟨g, 0, none⟩ ∧ wr.cell? ⟨g, k * 4 + 2, none⟩ = some (.int .i64 c.2.2.1) ∧ wr.frozen? ⟨g, k * 4 + 2, none⟩ = false ∧ Fin (wr.setCell ⟨g, k * 4 + 2, none⟩ (.int .i64 z)) gx A { x with cus := x.cus.set k (c.1, c.2.1, z, c.2.2.2) } := by
  have hkl := (List.getElem?_eq_some_iff.1 hk).1
  have hs := h.own.cus
  obtain ⟨g, cap, e, hB, _⟩ := owns_some hs (by omega)
  injection e with e1 _ e3
  have hs2 := hs
  rw [e1] at hs2
  obtain ⟨cur, hg⟩ := own_block hs2 (g := g) rfl
  have hn := World.ownsRow.stored hs2 (k * 4 + 2) (.int .i64 z)
  have hn1 := hn.1
  rw [flatC_set2 x.cus k c z hk] at hn1
  refine ⟨g, e1, ?_, World.ownsRow.frozenAt hs2 _, (heap_setCell_other _ _ _ _ (fun q => blk_types h.box hg (by decide) (show gx = g from q))).trans ?_, ⟨?_, ?_, ?_, ?_⟩, ?_⟩
  · have := World.ownsRow.cells hs2 (g := g) rfl (k * 4 + 2) (.int .i64 c.2.2.1) (flatC_get x.cus k c hk).2.2.1
    simpa [Addr.add_lit] using this
  · rw [h.box]
    simp [insC]
  · exact owns_sats (own_keep h.own.sats hg (by decide) _ _) rfl
  · have := owns_cus (a := A.ca) (cap := A.cc) (n := x.cus.length) (by rw [e1]; exact hn1) (by simp)
    simpa using this
  · have hq : IsRows _ _ _ _ _ := (h.own.cost.keep hg (by decide) (by decide) (k * 4 + 2) (.int .i64 z)).is_ h.own.nl
    have e9 : sqL N LK = x.cost := h.own.ck.symm
    rw [e9] at hq
    exact hq
  · have hq : IsRows _ _ _ _ _ := (h.own.time.keep hg (by decide) (by decide) (k * 4 + 2) (.int .i64 z)).is_ h.own.nl
    have e9 : sqL N LT = x.time := h.own.tk.symm
    rw [e9] at hq
    exact hq
  · exact h.light_ (by have := h.ns; show x.sats.length ≤ 4; omega) (by have := h.nc; simpa using this) (by show x.cost.length ≤ 10; rw [h.klen.1]; exact h.nn) (by show x.time.length ≤ 10; rw [h.klen.2]; exact h.nn) h.rowsK h.rowsT
theorem Fresh.put_cus3 (h : Fresh wr gx B A x N C D VK VT LK LT) (hk : x.cus[k]? = some c) (z : Int) : ∃ g, A.ca = some ⟨g, 0, none⟩ ∧ wr.cell? ⟨g, k * 4 + 3, none⟩ = some (.int .i64 c.2.2.2) ∧ wr.frozen? ⟨g, k * 4 + 3, none⟩ = false ∧ Fin (wr.setCell ⟨g, k * 4 + 3, none⟩ (.int .i64 z)) gx A { x with cus := x.cus.set k (c.1, c.2.1, c.2.2.1, z) } := by
  have hkl := (List.getElem?_eq_some_iff.1 hk).1
  have hs := h.own.cus
  obtain ⟨g, cap, e, hB, _⟩ := owns_some hs (by omega)
  injection e with e1 _ e3
  have hs2 := hs
  rw [e1] at hs2
  obtain ⟨cur, hg⟩ := own_block hs2 (g := g) rfl
  have hn := World.ownsRow.stored hs2 (k * 4 + 3) (.int .i64 z)
  have hn1 := hn.1
  rw [flatC_set3 x.cus k c z hk] at hn1
  refine ⟨g, e1, ?_, World.ownsRow.frozenAt hs2 _, (heap_setCell_other _ _ _ _ (fun q => blk_types h.box hg (by decide) (show gx = g from q))).trans ?_, ⟨?_, ?_, ?_, ?_⟩, ?_⟩
  · have := World.ownsRow.cells hs2 (g := g) rfl (k * 4 + 3) (.int .i64 c.2.2.2) (flatC_get x.cus k c hk).2.2.2
    simpa [Addr.add_lit] using this
  · rw [h.box]
    simp [insC]
  · exact owns_sats (own_keep h.own.sats hg (by decide) _ _) rfl
  · have := owns_cus (a := A.ca) (cap := A.cc) (n := x.cus.length) (by rw [e1]; exact hn1) (by simp)
    simpa using this
  · have hq : IsRows _ _ _ _ _ := (h.own.cost.keep hg (by decide) (by decide) (k * 4 + 3) (.int .i64 z)).is_ h.own.nl
    have e9 : sqL N LK = x.cost := h.own.ck.symm
    rw [e9] at hq
    exact hq
  · have hq : IsRows _ _ _ _ _ := (h.own.time.keep hg (by decide) (by decide) (k * 4 + 3) (.int .i64 z)).is_ h.own.nl
    have e9 : sqL N LT = x.time := h.own.tk.symm
    rw [e9] at hq
    exact hq
  · exact h.light_ (by have := h.ns; show x.sats.length ≤ 4; omega) (by have := h.nc; simpa using this) (by show x.cost.length ≤ 10; rw [h.klen.1]; exact h.nn) (by show x.time.length ≤ 10; rw [h.klen.2]; exact h.nn) h.rowsK h.rowsT
/-- A number of a matrix: where it lies. -/
theorem OwnSq.cell_ {a : Option Addr} {cap : Nat} (h : OwnSq B w (.slice a N cap) N N V L) (hi : i < N) (hk : k < N) : ∃ g, a = some ⟨g, 0, none⟩ ∧ w.cell? ⟨g, i, none⟩ = some (.slice (some ⟨V i, 0, none⟩) N N) ∧ w.cell? ⟨V i, k, none⟩ = some (.int .i64 (L i k)) ∧ w.frozen? ⟨V i, k, none⟩ = false := by
  obtain ⟨g, cap2, e, hB, _⟩ := owns_some h.outer (by omega)
  injection e with e1 _ e3
  have ho := h.outer
  rw [e1] at ho
  refine ⟨g, e1, ?_, (h.row i hi).1.cell hk, (h.row i hi).1.frozen k⟩
  rw [World.ownsRow.cellAt ho i (by omega)]
  simp [hi]
theorem Fresh.put_cost (h : Fresh wr gx B A x N C D VK VT LK LT) (hi : i < N) (hk : k < N) (z : Int) : Fin (wr.setCell ⟨VK i, k, none⟩ (.int .i64 z)) gx A { x with cost := sqL N (putL LK i k z) } := by
  obtain ⟨cur, hg⟩ := rowIs_block (h.own.cost.row i hi).1
  have hD : VK i < D := h.own.kb _ (.inr ⟨i, hi, rfl⟩)
  have hq := (h.own.cost.put hi hk z).is_ h.own.nl
  have ht := (h.own.time.set_ (i := k) (u := .int .i64 z) hD).is_ h.own.nl
  rw [show sqL N LT = x.time from h.own.tk.symm] at ht
  refine ⟨(heap_setCell_other _ _ _ _ (fun q => blk_types h.box hg (by decide) (show gx = VK i from q))).trans ?_, ⟨?_, ?_, ?_, ?_⟩, ?_⟩
  · rw [h.box]
    simp [insC, sqL_length, h.klen.1]
  · exact owns_sats (own_keep h.own.sats hg (by decide) _ _) rfl
  · exact owns_cus (own_keep h.own.cus hg (by decide) _ _) rfl
  · simpa using hq
  · simpa using ht
  · exact h.light_ (by have := h.ns; show x.sats.length ≤ 4; omega) h.nc (by show (sqL N _).length ≤ 10; rw [sqL_length]; exact h.nn) (by show x.time.length ≤ 10; rw [h.klen.2]; exact h.nn) (fun r hr => by have := sqL_mem hr; have := h.nn; omega) h.rowsT
theorem Fresh.put_time (h : Fresh wr gx B A x N C D VK VT LK LT) (hi : i < N) (hk : k < N) (z : Int) : Fin (wr.setCell ⟨VT i, k, none⟩ (.int .i64 z)) gx A { x with time := sqL N (putL LT i k z) } := by
  obtain ⟨cur, hg⟩ := rowIs_block (h.own.time.row i hi).1
  have hD : D ≤ VT i := (h.own.time.row i hi).2
  have hq := (h.own.time.put hi hk z).is_ h.own.nl
  have ht := (h.own.cost.ne_ (b := VT i) (fun e => by have := h.own.kb _ (.inl e); omega) (fun j hj e => by have := h.own.kb _ (.inr ⟨j, hj, e⟩); omega) k (.int .i64 z)).is_ h.own.nl
  rw [show sqL N LK = x.cost from h.own.ck.symm] at ht
  refine ⟨(heap_setCell_other _ _ _ _ (fun q => blk_types h.box hg (by decide) (show gx = VT i from q))).trans ?_, ⟨?_, ?_, ?_, ?_⟩, ?_⟩
  · rw [h.box]
    simp [insC, sqL_length, h.klen.2]
  · exact owns_sats (own_keep h.own.sats hg (by decide) _ _) rfl
  · exact owns_cus (own_keep h.own.cus hg (by decide) _ _) rfl
  · simpa using ht
  · simpa using hq
  · exact h.light_ (by have := h.ns; show x.sats.length ≤ 4; omega) h.nc (by show x.cost.length ≤ 10; rw [h.klen.1]; exact h.nn) (by show (sqL N _).length ≤ 10; rw [sqL_length]; exact h.nn) h.rowsK (fun r hr => by have := sqL_mem hr; have := h.nn; omega)
end Go.Proofs.Ytmnbpnjakbihdaa
