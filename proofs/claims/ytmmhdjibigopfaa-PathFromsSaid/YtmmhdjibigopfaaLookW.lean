/- Package path: what lies in memory while arcs are looked for. -/
import Derived.Test.YtmmhdjibigopfaaRnd
namespace Go.Proofs.Ytmmhdjibigopfaa
open Go.RowKit

variable {w wr w2 : World} {a : Option Addr} {len cap B co g tb gf cf gb cb cl L N i j k t : Nat} {l : List Ar} {V : Nat → Value} {f f2 by_ by2 : Nat → Int} {late d u : Int}
/-- The rows of arcs; the graph's box, the tree's; its two rows; the variable that is told. -/
structure LookW (B : Nat) (wr : World) (co g tb gf cf gb cb cl L N : Nat) (a : Option Addr) (len cap : Nat) (V : Nat → Value) (l : List Ar) (f by_ : Nat → Int) (late : Int) : Prop where
  adj : AdjK B wr co L N V (outK l)
  gr : wr.heap[g]? = some (.cells #[.int .i64 (N : Int), .slice a len cap] 26 (0, 0))
  tr : wr.heap[tb]? = some (.cells #[.slice (some ⟨gf, 0, none⟩) N cf, .slice (some ⟨gb, 0, none⟩) N cb] 31 (0, 0))
  arcs : IsArcs B wr a len l
  far : LongRow wr B (.slice (some ⟨gf, 0, none⟩) N cf) N f
  by_ : IntRow wr B (.slice (some ⟨gb, 0, none⟩) N cb) N by_
  lt : wr.heap[cl]? = some (.cells #[.int .i64 late] 3 (0, 0))
  ne : gf ≠ gb
  o1 : gf < tb
  o2 : gb < tb
  o3 : tb < g
  o4 : g < L
  o5 : co < cl
  rows : ∀ i, i < N → (V i).ownBlock ≠ some cl
/-- The blocks that are written. -/
def LookS (gf gb cl : Nat) (k : Nat) : Prop := k = gf ∨ k = gb ∨ k = cl
theorem LookW.later (h : LookW B wr co g tb gf cf gb cb cl L N a len cap V l f by_ late) (hb : Below wr.heap.size wr w2) : LookW B w2 co g tb gf cf gb cb cl L N a len cap V l f by_ late :=
  ⟨h.adj.later hb, (hb.block g (Array.getElem?_eq_some_iff.1 h.gr).1).trans h.gr, (hb.block tb (Array.getElem?_eq_some_iff.1 h.tr).1).trans h.tr, ⟨h.arcs.1, by
    rcases h.arcs.2 with q | ⟨b, off, e, h1, h2⟩
    · exact .inl q
    · exact .inr ⟨b, off, e, h1, h2.of_block (hb.block b (by have := h.far.base_; omega))⟩⟩, h.far.below hb, h.by_.below hb, (hb.block cl (Array.getElem?_eq_some_iff.1 h.lt).1).trans h.lt,
    h.ne, h.o1, h.o2, h.o3, h.o4, h.o5, h.rows⟩
/-- A write to one of the three. -/
theorem LookW.frame (h : LookW B wr co g tb gf cf gb cb cl L N a len cap V l f by_ late) (hm : Mod (LookS gf gb cl) wr w2) :
    AdjK B w2 co L N V (outK l) ∧ w2.heap[g]? = some (.cells #[.int .i64 (N : Int), .slice a len cap] 26 (0, 0)) ∧
    w2.heap[tb]? = some (.cells #[.slice (some ⟨gf, 0, none⟩) N cf, .slice (some ⟨gb, 0, none⟩) N cb] 31 (0, 0)) ∧ IsArcs B w2 a len l := by
  have a1 := h.o1
  have a2 := h.o2
  have a3 := h.o3
  have a4 := h.o4
  have a5 := h.o5
  have a6 := h.adj.lt
  have b1 := h.far.base_
  have b2 := h.by_.base_
  have a7 := h.adj.ge
  have no : ∀ k, tb ≤ k → k ≠ cl → ¬ LookS gf gb cl k := fun k h1 h2 h3 => by unfold LookS at h3; omega
  have noB : ∀ k, k < B → ¬ LookS gf gb cl k := fun k h1 h3 => by unfold LookS at h3; omega
  refine ⟨⟨a7, a6, h.adj.out.of_block (hm.block L h.adj.out.lt (no L (by omega) (by omega))), (hm.block co h.adj.ltc (no co (by omega) (by omega))).trans h.adj.var, fun i hi => owns_kept (h.adj.row i hi) hm (fun k hk => ?_), h.adj.apart⟩,
    (hm.block g (Array.getElem?_eq_some_iff.1 h.gr).1 (no g (by omega) (by omega))).trans h.gr, (hm.block tb (Array.getElem?_eq_some_iff.1 h.tr).1 (no tb (by omega) (by omega))).trans h.tr, h.arcs.1, ?_⟩
  · have := (World.ownsRow.lt (h.adj.row i hi) k hk).1
    exact no k (by omega) (fun e => by subst e; exact h.rows i hi hk)
  · rcases h.arcs.2 with q | ⟨b, off, e, h1, h2⟩
    · exact .inl q
    · exact .inr ⟨b, off, e, h1, h2.of_block (hm.block b (by omega) (noB b h1))⟩
/-- A node gets nearer. -/
theorem LookW.set_ (h : LookW B wr co g tb gf cf gb cb cl L N a len cap V l f by_ late) (ht : t < N) (d u v : Int) :
    LookW B (((wr.setCell ⟨gf, t, none⟩ (.int .i64 d)).setCell ⟨gb, t, none⟩ (.int .i64 u)).setCell ⟨cl, 0, none⟩ (.int .i64 v)) co g tb gf cf gb cb cl L N a len cap V l (fun i => if i = t then d else f i) (fun i => if i = t then u else by_ i) v := by
  have a1 := h.o1
  have a2 := h.o2
  have a3 := h.o3
  have a4 := h.o4
  have a5 := h.o5
  have a6 := h.adj.lt
  have hne := h.ne
  have hm1 : Mod (fun k => k = gf) wr (wr.setCell ⟨gf, t, none⟩ (.int .i64 d)) := (Mod.refl (fun k => k = gf) wr).setCell (p := ⟨gf, t, none⟩) (.inr rfl) _
  have hm2 : Mod (fun k => k = gb) (wr.setCell ⟨gf, t, none⟩ (.int .i64 d)) ((wr.setCell ⟨gf, t, none⟩ (.int .i64 d)).setCell ⟨gb, t, none⟩ (.int .i64 u)) := (Mod.refl (fun k => k = gb) _).setCell (p := ⟨gb, t, none⟩) (.inr rfl) _
  have hm3 : Mod (fun k => k = cl) ((wr.setCell ⟨gf, t, none⟩ (.int .i64 d)).setCell ⟨gb, t, none⟩ (.int .i64 u)) (((wr.setCell ⟨gf, t, none⟩ (.int .i64 d)).setCell ⟨gb, t, none⟩ (.int .i64 u)).setCell ⟨cl, 0, none⟩ (.int .i64 v)) := (Mod.refl (fun k => k = cl) _).setCell (p := ⟨cl, 0, none⟩) (.inr rfl) _
  have hm : Mod (LookS gf gb cl) wr (((wr.setCell ⟨gf, t, none⟩ (.int .i64 d)).setCell ⟨gb, t, none⟩ (.int .i64 u)).setCell ⟨cl, 0, none⟩ (.int .i64 v)) :=
    ((hm1.mono (fun _ _ q => .inl q)).trans (hm2.mono (fun _ _ q => .inr (.inl q)))).trans (hm3.mono (fun _ _ q => .inr (.inr q)))
  obtain ⟨c1, c2, c3, c4⟩ := h.frame hm
  have hl := (Array.getElem?_eq_some_iff.1 h.lt).1
  refine ⟨c1, c2, c3, c4, ((h.far.set_ ht d).kept hm2 (fun k hk (e : k = gb) => ?_)).kept hm3 (fun k hk (e : k = cl) => ?_), ((h.by_.kept hm1 (fun k hk (e : k = gf) => ?_)).set_ ht u).kept hm3 (fun k hk (e : k = cl) => ?_), ?_, h.ne, h.o1, h.o2, h.o3, h.o4, h.o5, h.rows⟩
  · have e2 : gf = k := Option.some.inj hk; omega
  · have e2 : gf = k := Option.some.inj hk; omega
  · have e2 : gb = k := Option.some.inj hk; omega
  · have e2 : gb = k := Option.some.inj hk; omega
  · have e1 := (hm2.block cl (Nat.lt_of_lt_of_le hl hm1.size) (show ¬ cl = gb by omega)).trans ((hm1.block cl hl (show ¬ cl = gf by omega)).trans h.lt)
    exact heap_setCell_same _ cl 0 _ _ _ e1
theorem look_mod (wr : World) (gf gb cl t : Nat) (d u v : Value) : Mod (LookS gf gb cl) wr (((wr.setCell ⟨gf, t, none⟩ d).setCell ⟨gb, t, none⟩ u).setCell ⟨cl, 0, none⟩ v) :=
  (((Mod.refl _ wr).setCell (p := ⟨gf, t, none⟩) (.inr (.inl rfl)) _).setCell (p := ⟨gb, t, none⟩) (.inr (.inr (.inl rfl))) _).setCell (p := ⟨cl, 0, none⟩) (.inr (.inr (.inr rfl))) _
theorem LookW.congr (h : LookW B wr co g tb gf cf gb cb cl L N a len cap V l f by_ late) (e : ∀ i, i < N → f i = f2 i) (e2 : ∀ i, i < N → by_ i = by2 i) : LookW B wr co g tb gf cf gb cb cl L N a len cap V l f2 by2 late :=
  ⟨h.adj, h.gr, h.tr, h.arcs, h.far.congr e, h.by_.congr e2, h.lt, h.ne, h.o1, h.o2, h.o3, h.o4, h.o5, h.rows⟩
theorem LookW.gcell (h : LookW B wr co g tb gf cf gb cb cl L N a len cap V l f by_ late) : wr.cell? ⟨g, 1, none⟩ = some (.slice a len cap) := by simp [World.cell?, h.gr]
theorem LookW.t0 (h : LookW B wr co g tb gf cf gb cb cl L N a len cap V l f by_ late) : wr.cell? ⟨tb, 0, none⟩ = some (.slice (some ⟨gf, 0, none⟩) N cf) := by simp [World.cell?, h.tr]
theorem LookW.t1 (h : LookW B wr co g tb gf cf gb cb cl L N a len cap V l f by_ late) : wr.cell? ⟨tb, 1, none⟩ = some (.slice (some ⟨gb, 0, none⟩) N cb) := by simp [World.cell?, h.tr]
theorem LookW.lc (h : LookW B wr co g tb gf cf gb cb cl L N a len cap V l f by_ late) : wr.cell? ⟨cl, 0, none⟩ = some (.int .i64 late) := by simp [World.cell?, h.lt]
theorem LookW.lf (h : LookW B wr co g tb gf cf gb cb cl L N a len cap V l f by_ late) (k : Nat) : wr.frozen? ⟨cl, k, none⟩ = false := by simp [World.frozen?, h.lt]

set_option maxHeartbeats 400000 in
theorem tell_any (t : Int) (cl : Nat) (w : World) (v : Value) (h : w.heap[cl]? = some (.cells #[v] 3 (0, 0))) :
    Calls Try.prog 35 #[.int .i64 t, .pointer (some ⟨cl, 0, none⟩)] w fun e w' => e = .returned (.tuple #[]) ∧ w.setCell ⟨cl, 0, none⟩ (.int .i64 t) = w' := by
  have c : w.cell? ⟨cl, 0, none⟩ = some v := by simp [World.cell?, h]
  have fr : w.frozen? ⟨cl, 0, none⟩ = false := by simp [World.frozen?, h]
  clear h
  go_enter Try.func35, Try.ntmps35
  go_wp2_with fail
  go_end0
  exact ⟨rfl, rfl⟩
end Go.Proofs.Ytmmhdjibigopfaa
