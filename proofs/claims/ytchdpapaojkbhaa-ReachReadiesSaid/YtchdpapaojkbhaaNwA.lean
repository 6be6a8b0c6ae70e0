/- Joined: NearW, NearLook, NearO, ArcFunc, NearIs. -/
import Derived.Test.YtchdpapaojkbhaaPbA
import Derived.Test.YtchdpapaojkbhaaNrA
import Derived.Test.YtchdpapaojkbhaaHpB
import Derived.StillTailTactics
import Derived.Deep.RegionHeld3
import Derived.Deep.QuietTactic
import Derived.BigQuiet
import Derived.Test.YtchdpapaojkbhaaGrA
import Derived.Deep.LoopGhost
import Derived.LoopTactic
section
/- Package path: what lies in memory while the nearest nodes are looked for. -/
namespace Go.Proofs.Ytchdpapaojkbhaa
open Go.RowKit

variable {w w0 wr w2 : World} {a : Option Addr} {len cap K co g tb tn nx gf cf gb cb L b N i j k t : Nat} {l : List Ar} {V : Nat → Value} {f f2 by_ by2 : Nat → Int} {v v' : Value} {Q Q2 : List It} {d u : Int} {S : Nat → Prop}
/-- The rows of arcs; the graph's box, the tree's (and looker's copy of it); its two rows; the pile, and the variable that points to it. -/
structure NearW (w0 wr : World) (K co g tb tn nx gf cf gb cb L b N : Nat) (a : Option Addr) (len cap : Nat) (V : Nat → Value) (l : List Ar) (f by_ : Nat → Int) (v : Value) (Q : List It) : Prop where
  adj : AdjK w0.heap.size wr co L N V (outK l)
  gr : wr.heap[g]? = some (.cells #[.int .i64 (N : Int), .slice a len cap] 71 (0, 0))
  tr : wr.heap[tb]? = some (.cells #[.slice (some ⟨gf, 0, none⟩) N cf, .slice (some ⟨gb, 0, none⟩) N cb] 84 (0, 0))
  tr2 : wr.heap[tn]? = some (.cells #[.slice (some ⟨gf, 0, none⟩) N cf, .slice (some ⟨gb, 0, none⟩) N cb] 84 (0, 0))
  nv : wr.heap[nx]? = some (.cells #[.pointer (some ⟨b, 0, none⟩)] 101 (0, 0))
  arcs : IsArcs w0.heap.size wr a len l
  far : LongRow wr w0.heap.size (.slice (some ⟨gf, 0, none⟩) N cf) N f
  by_ : IntRow wr w0.heap.size (.slice (some ⟨gb, 0, none⟩) N cb) N by_
  pile : Have w0 b v Q wr
  ne : gf ≠ gb
  o1 : gf < tn
  o2 : gb < tn
  o3 : tn < tb
  o4 : tb < g
  o5 : g < L
  o6 : co < K
  o7 : K ≤ b
  o8 : b < nx
  rows : ∀ i, i < N → ∀ k, (V i).ownBlock = some k → k < K
  pv : ∀ k, v.ownBlock = some k → nx < k
/-- The blocks that are written. -/
def NS (gf gb b : Nat) (v : Value) (k : Nat) : Prop := k = gf ∨ k = gb ∨ k = b ∨ v.ownBlock = some k
/-- What a round leaves alone but for the pile and the two rows. -/
theorem NearW.frame (h : NearW w0 wr K co g tb tn nx gf cf gb cb L b N a len cap V l f by_ v Q) (hm : Mod S wr w2) (h1 : ∀ k, w0.heap.size ≤ k → tn ≤ k → k < K → ¬ S k) (h2 : ¬ S nx) (h3 : ∀ k, k < w0.heap.size → ¬ S k) :
    AdjK w0.heap.size w2 co L N V (outK l) ∧ w2.heap[g]? = some (.cells #[.int .i64 (N : Int), .slice a len cap] 71 (0, 0)) ∧
    w2.heap[tb]? = some (.cells #[.slice (some ⟨gf, 0, none⟩) N cf, .slice (some ⟨gb, 0, none⟩) N cb] 84 (0, 0)) ∧
    w2.heap[tn]? = some (.cells #[.slice (some ⟨gf, 0, none⟩) N cf, .slice (some ⟨gb, 0, none⟩) N cb] 84 (0, 0)) ∧
    w2.heap[nx]? = some (.cells #[.pointer (some ⟨b, 0, none⟩)] 101 (0, 0)) ∧ IsArcs w0.heap.size w2 a len l := by
  have a1 := h.o1
  have a2 := h.o2
  have a3 := h.o3
  have a4 := h.o4
  have a5 := h.o5
  have a6 := h.o6
  have a7 := h.adj.lt
  have a8 := h.adj.ge
  have a9 := h.far.base_
  have hK : ∀ k, tn ≤ k → k < K → ¬ S k := fun k e1 e2 => h1 k (by omega) e1 e2
  refine ⟨⟨a8, a7, h.adj.out.of_block (hm.block L h.adj.out.lt (hK L (by omega) (by omega))), (hm.block co h.adj.ltc (hK co (by omega) (by omega))).trans h.adj.var, fun i hi => owns_kept (h.adj.row i hi) hm (fun k hk => ?_), h.adj.apart⟩,
    (hm.block g (Array.getElem?_eq_some_iff.1 h.gr).1 (hK g (by omega) (by omega))).trans h.gr, (hm.block tb (Array.getElem?_eq_some_iff.1 h.tr).1 (hK tb (by omega) (by omega))).trans h.tr,
    (hm.block tn (Array.getElem?_eq_some_iff.1 h.tr2).1 (hK tn (by omega) (by omega))).trans h.tr2, (hm.block nx (Array.getElem?_eq_some_iff.1 h.nv).1 h2).trans h.nv, h.arcs.1, ?_⟩
  · have := (World.ownsRow.lt (h.adj.row i hi) k hk).1
    exact hK k (by omega) (h.rows i hi k hk)
  · rcases h.arcs.2 with q | ⟨b, off, e, e1, e2⟩
    · exact .inl q
    · exact .inr ⟨b, off, e, e1, e2.of_block (hm.block b (by omega) (h3 b e1))⟩
theorem NearW.later (h : NearW w0 wr K co g tb tn nx gf cf gb cb L b N a len cap V l f by_ v Q) (hb : Below wr.heap.size wr w2) : NearW w0 w2 K co g tb tn nx gf cf gb cb L b N a len cap V l f by_ v Q := by
  obtain ⟨c1, c2, c3, c4, c5, c6⟩ := h.frame (Mod.of_below (fun _ => False) hb) (fun _ _ _ _ h => h) (fun h => h) (fun _ _ h => h)
  exact ⟨c1, c2, c3, c4, c5, c6, h.far.below hb, h.by_.below hb, h.pile.later hb, h.ne, h.o1, h.o2, h.o3, h.o4, h.o5, h.o6, h.o7, h.o8, h.rows, h.pv⟩
/-- A node gets nearer. -/
theorem NearW.set_ (h : NearW w0 wr K co g tb tn nx gf cf gb cb L b N a len cap V l f by_ v Q) (ht : t < N) (d u : Int) :
    NearW w0 ((wr.setCell ⟨gf, t, none⟩ (.int .i64 d)).setCell ⟨gb, t, none⟩ (.int .i64 u)) K co g tb tn nx gf cf gb cb L b N a len cap V l (fun i => if i = t then d else f i) (fun i => if i = t then u else by_ i) v Q := by
  have a1 := h.o1
  have a2 := h.o2
  have a3 := h.o3
  have a4 := h.o4
  have a5 := h.o5
  have a6 := h.o6
  have a7 := h.adj.lt
  have a8 := h.o7
  have a9 := h.o8
  have b1 := h.far.base_
  have b2 := h.by_.base_
  have hne := h.ne
  have hm1 : Mod (fun k => k = gf) wr (wr.setCell ⟨gf, t, none⟩ (.int .i64 d)) := (Mod.refl (fun k => k = gf) wr).setCell (p := ⟨gf, t, none⟩) (.inr rfl) _
  have hm2 : Mod (fun k => k = gb) (wr.setCell ⟨gf, t, none⟩ (.int .i64 d)) ((wr.setCell ⟨gf, t, none⟩ (.int .i64 d)).setCell ⟨gb, t, none⟩ (.int .i64 u)) := (Mod.refl (fun k => k = gb) _).setCell (p := ⟨gb, t, none⟩) (.inr rfl) _
  have hm : Mod (fun k => k = gf ∨ k = gb) wr ((wr.setCell ⟨gf, t, none⟩ (.int .i64 d)).setCell ⟨gb, t, none⟩ (.int .i64 u)) := (hm1.mono (fun _ _ q => .inl q)).trans (hm2.mono (fun _ _ q => .inr q))
  obtain ⟨c1, c2, c3, c4, c5, c6⟩ := h.frame hm (fun k _ e1 _ (e : k = gf ∨ k = gb) => by omega) (fun (e : nx = gf ∨ nx = gb) => by omega) (fun k e1 (e : k = gf ∨ k = gb) => by omega)
  refine ⟨c1, c2, c3, c4, c5, c6, (h.far.set_ ht d).kept hm2 (fun k hk (e : k = gb) => ?_), (h.by_.kept hm1 (fun k hk (e : k = gf) => ?_)).set_ ht u, h.pile.kept hm (fun (e : b = gf ∨ b = gb) => by omega) (fun k hk (e : k = gf ∨ k = gb) => ?_) (fun k (e : k = gf ∨ k = gb) => by omega), h.ne, h.o1, h.o2, h.o3, h.o4, h.o5, h.o6, h.o7, h.o8, h.rows, h.pv⟩
  · have e2 : gf = k := Option.some.inj hk; omega
  · have e2 : gb = k := Option.some.inj hk; omega
  · have := h.pv k hk; omega
/-- The pile is another one. -/
theorem NearW.piled (h : NearW w0 wr K co g tb tn nx gf cf gb cb L b N a len cap V l f by_ v Q) (hP : Have w0 b v' Q2 w2) (ht : Turned b v v' wr w2) : NearW w0 w2 K co g tb tn nx gf cf gb cb L b N a len cap V l f by_ v' Q2 := by
  have a1 := h.o1
  have a2 := h.o2
  have a3 := h.o3
  have a4 := h.o4
  have a5 := h.o5
  have a6 := h.o6
  have a7 := h.adj.lt
  have a8 := h.o7
  have a9 := h.o8
  have b1 := h.far.base_
  have b2 := h.by_.base_
  have hpv := h.pv
  have no : ∀ k, k < b → ¬ pileS b v k := fun k hk hs => by
    rcases hs with hs | hs
    · omega
    · have := hpv k hs; omega
  obtain ⟨c1, c2, c3, c4, c5, c6⟩ := h.frame ht.mod (fun k _ _ e => no k (by omega)) (fun hs => by
    rcases hs with hs | hs
    · omega
    · have := hpv nx hs; omega) (fun k e => no k (by omega))
  refine ⟨c1, c2, c3, c4, c5, c6, h.far.kept ht.mod (fun k hk => ?_), h.by_.kept ht.mod (fun k hk => ?_), hP, h.ne, h.o1, h.o2, h.o3, h.o4, h.o5, h.o6, h.o7, h.o8, h.rows, fun k hk => ?_⟩
  · have e2 : gf = k := Option.some.inj hk
    exact no k (by omega)
  · have e2 : gb = k := Option.some.inj hk
    exact no k (by omega)
  · rcases ht.fresh with e | ⟨g2, e, e2⟩
    · exact h.pv k (e ▸ hk)
    · rw [e] at hk
      injection hk with hk
      have := (Array.getElem?_eq_some_iff.1 h.nv).1
      omega
theorem NearW.congr (h : NearW w0 wr K co g tb tn nx gf cf gb cb L b N a len cap V l f by_ v Q) (e : ∀ i, i < N → f i = f2 i) (e2 : ∀ i, i < N → by_ i = by2 i) : NearW w0 wr K co g tb tn nx gf cf gb cb L b N a len cap V l f2 by2 v Q :=
  ⟨h.adj, h.gr, h.tr, h.tr2, h.nv, h.arcs, h.far.congr e, h.by_.congr e2, h.pile, h.ne, h.o1, h.o2, h.o3, h.o4, h.o5, h.o6, h.o7, h.o8, h.rows, h.pv⟩
theorem NearW.perm (h : NearW w0 wr K co g tb tn nx gf cf gb cb L b N a len cap V l f by_ v Q) (hp : Q.Perm Q2) : NearW w0 wr K co g tb tn nx gf cf gb cb L b N a len cap V l f by_ v Q2 := by
  obtain ⟨⟨d, hP, hh, hp0⟩, hB, hf⟩ := h.pile
  exact ⟨h.adj, h.gr, h.tr, h.tr2, h.nv, h.arcs, h.far, h.by_, ⟨⟨d, hP, hh, hp0.trans hp⟩, hB, hf⟩, h.ne, h.o1, h.o2, h.o3, h.o4, h.o5, h.o6, h.o7, h.o8, h.rows, h.pv⟩
theorem NearW.gcell (h : NearW w0 wr K co g tb tn nx gf cf gb cb L b N a len cap V l f by_ v Q) : wr.cell? ⟨g, 1, none⟩ = some (.slice a len cap) := by simp [World.cell?, h.gr]
theorem NearW.t0 (h : NearW w0 wr K co g tb tn nx gf cf gb cb L b N a len cap V l f by_ v Q) : wr.cell? ⟨tb, 0, none⟩ = some (.slice (some ⟨gf, 0, none⟩) N cf) := by simp [World.cell?, h.tr]
theorem NearW.t1 (h : NearW w0 wr K co g tb tn nx gf cf gb cb L b N a len cap V l f by_ v Q) : wr.cell? ⟨tb, 1, none⟩ = some (.slice (some ⟨gb, 0, none⟩) N cb) := by simp [World.cell?, h.tr]
theorem NearW.n0 (h : NearW w0 wr K co g tb tn nx gf cf gb cb L b N a len cap V l f by_ v Q) : wr.cell? ⟨tn, 0, none⟩ = some (.slice (some ⟨gf, 0, none⟩) N cf) := by simp [World.cell?, h.tr2]
theorem NearW.n1 (h : NearW w0 wr K co g tb tn nx gf cf gb cb L b N a len cap V l f by_ v Q) : wr.cell? ⟨tn, 1, none⟩ = some (.slice (some ⟨gb, 0, none⟩) N cb) := by simp [World.cell?, h.tr2]
theorem NearW.nc (h : NearW w0 wr K co g tb tn nx gf cf gb cb L b N a len cap V l f by_ v Q) : wr.cell? ⟨nx, 0, none⟩ = some (.pointer (some ⟨b, 0, none⟩)) := by simp [World.cell?, h.nv]
theorem NearW.row (h : NearW w0 wr K co g tb tn nx gf cf gb cb L b N a len cap V l f by_ v Q) (hi : i < N) {va : Option Addr} {vc n : Nat} (hv : V i = .slice va n vc) (hj : j < (outK l i).length) :
    ∃ (gv k : Nat) (x : Ar), va = some ⟨gv, 0, none⟩ ∧ (outK l i)[j]? = some (k : Int) ∧ wr.cell? ⟨gv, j, none⟩ = some (.int .i64 (k : Int)) ∧ l[k]? = some x ∧ x.1 = (i : Int) ∧ k < len := by
  have hr := h.adj.row i hi
  obtain ⟨gv, cv, e, _, _, _, _⟩ := owns_some hr (by omega)
  have e2 := hv.symm.trans e
  simp only [Value.slice.injEq] at e2
  obtain ⟨rfl, rfl, rfl⟩ := e2
  have hx := List.getElem?_eq_getElem hj
  obtain ⟨k, x, h1, h2, h3⟩ := mem_outK.1 (List.mem_of_getElem? hx)
  rw [h1] at hx
  rw [e] at hr
  have hl := h.arcs.1
  have hk : k < l.length := (List.getElem?_eq_some_iff.1 h2).1
  exact ⟨gv, k, x, rfl, hx, nums_cell hr hx, h2, h3, by omega⟩
theorem ns_mod (wr : World) (gf gb b t : Nat) (v d u : Value) : Mod (NS gf gb b v) wr ((wr.setCell ⟨gf, t, none⟩ d).setCell ⟨gb, t, none⟩ u) :=
  ((Mod.refl _ wr).setCell (p := ⟨gf, t, none⟩) (.inr (.inl rfl)) _).setCell (p := ⟨gb, t, none⟩) (.inr (.inr (.inl rfl))) _
theorem ns_pile {b gf gb : Nat} (hm : Mod (pileS b v) wr w2) : Mod (NS gf gb b v) wr w2 := hm.mono (fun _ _ hk => by
  rcases hk with hk | hk
  · exact .inr (.inr (.inl hk))
  · exact .inr (.inr (.inr hk)))

set_option maxHeartbeats 1000000 in
set_option maxRecDepth 100000 in
theorem tellN_any (ht : t < N) (hQ : Q.length ≤ 50000) (w : World) (h : NearW w0 w K co g tb tn nx gf cf gb cb L b N a len cap V l f by_ v Q) :
    Calls Try.prog 57 #[.int .i64 (t : Int), .pointer (some ⟨nx, 0, none⟩), .pointer (some ⟨tn, 0, none⟩)] w fun e w' => e = .returned (.tuple #[]) ∧
      ∃ v', NearW w0 w' K co g tb tn nx gf cf gb cb L b N a len cap V l f by_ v' ((f t, (t : Int)) :: Q) ∧ Turned b v v' w w' := by
  have t1 : (0 : Int) ≤ (t : Int) := by omega
  have t2 : (t : Int) < (N : Int) := by omega
  have H := Lib.hid h
  obtain ⟨w2, hw2⟩ : ∃ w2, w2 = World.drew w := ⟨_, rfl⟩
  have hb2 : Below w.heap.size w w2 := by rw [hw2]; exact (Below.refl _ _).drew
  have H2 := Lib.hid (h.later hb2)
  have hsz : w2.heap.size = w.heap.size := by rw [hw2]; rfl
  have HB := Lib.hid hb2
  clear h hb2
  have c1 := H2.out.nc
  have c2 := H2.out.n0
  have c3 := H2.out.far.cell ht
  obtain ⟨z, hz⟩ : ∃ z, f t = z := ⟨_, rfl⟩
  rw [hz] at c3
  have HZ := Lib.hid hz
  clear hz
  have HP := Lib.hid (put_have (z, (t : Int)) H2.out.pile hQ)
  clear hQ
  go_enter Try.func57, Try.ntmps57
  go_wp2_with fail
  refine wp_region_still_tail 8 (by kernel_rfl) (by kernel_rfl) ?_
  simp only [List.take_succ_cons, List.take_zero, List.drop_succ_cons, List.drop_zero]
  change wpStill _ _ (World.drew w) (fun a' => wpList _ _ _ _ a' (World.drew w)) _ _
  rw [← hw2]
  clear hw2
  repeat still_step
  refine wpStill_nil ?_
  go_wp2_with (go_at_call 55; refine HP.out.mono ?_; rintro e w5 ⟨rfl, v', hP, hT⟩; have HN := Lib.hid (H2.out.piled hP hT); have HT := Lib.hid hT; clear hP hT)
  go_end0
  refine ⟨rfl, v', by rw [HZ.out]; exact HN.out, (Mod.of_below _ HB.out).trans (HT.out.mod), ?_⟩
  rcases HT.out.fresh with e | ⟨g2, e1, e2⟩
  · exact .inl e
  · exact .inr ⟨g2, e1, by omega⟩
end Go.Proofs.Ytchdpapaojkbhaa
end
section
/- Package path: looker's closure, where Near's is told. -/
namespace Go.Proofs.Ytchdpapaojkbhaa
open Go.RowKit

variable {w w0 wr w2 : World} {a : Option Addr} {len cap K co g tb tn nx gf cf gb cb L b N i j k t s ab : Nat} {l : List Ar} {V : Nat → Value} {by_ : Nat → Int} {v v' : Value} {Q : List It} {p c : Int} {far : Nat → Option Int} {dn : Nat → Bool} {S : Nat → Prop}
/-- What the round's last region reads: the tree's slices, the arc. -/
def LkRN (tb gf cf gb cb N ab : Nat) (t : Int) (c : Int) (W : World) : Prop := W.cell? ⟨tb, 0, none⟩ = some (.slice (some ⟨gf, 0, none⟩) N cf) ∧ W.cell? ⟨tb, 1, none⟩ = some (.slice (some ⟨gb, 0, none⟩) N cb) ∧ W.cell? ⟨ab, 1, none⟩ = some (.int .i64 t) ∧ W.cell? ⟨ab, 2, none⟩ = some (.int .i64 c) ∧ tb < W.heap.size ∧ ab < W.heap.size
theorem LkRN.mod {t c : Int} (h : LkRN tb gf cf gb cb N ab t c w) (hm : Mod S w w2) (h1 : ¬ S tb) (h2 : ¬ S ab) : LkRN tb gf cf gb cb N ab t c w2 :=
  ⟨(hm.cell (p := ⟨tb, 0, none⟩) h.2.2.2.2.1 h1).trans h.1, (hm.cell (p := ⟨tb, 1, none⟩) h.2.2.2.2.1 h1).trans h.2.1, (hm.cell (p := ⟨ab, 1, none⟩) h.2.2.2.2.2 h2).trans h.2.2.1, (hm.cell (p := ⟨ab, 2, none⟩) h.2.2.2.2.2 h2).trans h.2.2.2.1, Nat.lt_of_lt_of_le h.2.2.2.2.1 hm.size, Nat.lt_of_lt_of_le h.2.2.2.2.2 hm.size⟩
/-- Where the pile's row lies then. -/
def FrN (m : Nat) (v v' : Value) : Prop := v'.ownBlock = v.ownBlock ∨ ∃ g, v'.ownBlock = some g ∧ m ≤ g
theorem FrN.next {v2 v3 : Value} {W W2 : World} {m : Nat} (h : FrN m v v2) (hm : m ≤ W.heap.size) (ht : Turned b v2 v3 W W2) : FrN m v v3 := by
  rcases ht.fresh with e | ⟨g, e, e2⟩
  · rcases h with h | ⟨g2, h, h2⟩
    · exact .inl (e.trans h)
    · exact .inr ⟨g2, e.trans h, h2⟩
  · exact .inr ⟨g, e, by omega⟩
theorem FrN.mod {v2 v3 : Value} {W W2 : World} (h : FrN w.heap.size v v2) (hm : Mod (NS gf gb b v) w W) (ht : Turned b v2 v3 W W2) : Mod (NS gf gb b v) w W2 :=
  hm.then_ ht.mod (fun i hi hs => by
    rcases hs with hs | hs
    · exact .inr (.inr (.inl hs))
    · rcases h with h | ⟨g2, h, h2⟩
      · exact .inr (.inr (.inr (h ▸ hs)))
      · rw [h] at hs
        injection hs with hs
        omega)

set_option maxHeartbeats 4000000 in
set_option maxRecDepth 100000 in
theorem nearLook_any (hN : N ≤ 1000) (hlen : len ≤ 20000) (hok : ∀ x ∈ l, okA (N : Int) x = true) (hw0 : ∀ x ∈ l, 0 ≤ x.2.2) (hi : i < N) (hQ : Q.length + (outK l i).length ≤ 50000) (w : World)
    (hW : NearW w0 w K co g tb tn nx gf cf gb cb L b N a len cap V l (valI far) by_ v Q) (hr : SrchI l s N i p far dn Q 0) :
    Calls Try.prog 63 #[.int .i64 (i : Int), .int .i64 p, .func (.func 57) #[] #[.pointer (some ⟨nx, 0, none⟩), .pointer (some ⟨tn, 0, none⟩)], .pointer (some ⟨co, 0, none⟩), .pointer (some ⟨g, 0, none⟩), .pointer (some ⟨tb, 0, none⟩)] w fun e w' =>
      e = .returned (.tuple #[]) ∧ ∃ far2 by2 v2 Q2, NearW w0 w' K co g tb tn nx gf cf gb cb L b N a len cap V l (valI far2) by2 v2 Q2 ∧ SrchI l s N i p far2 dn Q2 (outK l i).length ∧ Q2.length ≤ Q.length + (outK l i).length ∧ Mod (NS gf gb b v) w w' ∧ FrN w.heap.size v v2 := by
  have HOK := Lib.hid hok; clear hok
  have HW1 := Lib.hid hw0; clear hw0
  have hps := hr.far_in
  have hi1 : (0 : Int) ≤ (i : Int) := by omega
  have hi2 : (i : Int) < (N : Int) := by omega
  obtain ⟨va, vc, hv⟩ := owns_shape (hW.adj.row i hi)
  have hml : (outK l i).length ≤ 20000 := Nat.le_trans (outK_le _ _) (by have := hW.arcs.1; omega)
  have x0 := hW.adj.cell
  have x1 := hW.adj.out.cell hi
  rw [hv] at x1
  have HV := Lib.hid hv; clear hv
  have HW0 := Lib.hid hW; clear hW
  have HR0 : Hid (SrchI l s N i p far dn Q 0) := Lib.hid hr; clear hr
  have HM0 : Hid (Mod (NS gf gb b v) w w ∧ FrN w.heap.size v v) := Lib.hid ⟨Mod.refl _ _, .inl rfl⟩
  obtain ⟨n, hn⟩ : ∃ n, (outK l i).length = n := ⟨_, rfl⟩
  rw [hn] at x1 hml HV hQ
  have HN := Lib.hid hn; clear hn
  go_enter Try.func63, Try.ntmps63
  go_wp2_with fail
  clear x0 x1
  go_loopw [17] (fun jv wr => ∃ (j : Nat) (far2 : Nat → Option Int) (by2 : Nat → Int) (v2 : Value) (Q2 : List It), jv = .int .i64 j ∧ j ≤ n ∧ Q2.length ≤ Q.length + j ∧ Hid (NearW w0 wr K co g tb tn nx gf cf gb cb L b N a len cap V l (valI far2) by2 v2 Q2) ∧ Hid (SrchI l s N i p far2 dn Q2 j) ∧ Hid (Mod (NS gf gb b v) w wr ∧ FrN w.heap.size v v2)) (fun jv _ => n - (intOf jv).toNat)
  case atStart => exact ⟨0, _, _, _, _, rfl, Nat.zero_le _, Nat.le_refl _, HW0, HR0, HM0⟩
  case round =>
    obtain ⟨j, far2, by2, v2, Q2, rfl, hj, hq2, HX, HR, HM⟩ := hrel
    clear HW0 HR0 HM0
    by_cases hlt : j < n
    · obtain ⟨gv, k, x, rfl, hx1, x0, hx2, hx3, hk⟩ := HX.out.row (j := j) hi HV.out (by have := HN.out; omega)
      obtain ⟨ba, off, x', rfl, hb, hx', e0, e1, e2⟩ := HX.out.arcs.at_ hk
      rw [hx2] at hx'
      cases hx'
      have hxok := okA_true.1 (HOK.out x (List.mem_of_getElem? hx2))
      have hxw := HW1.out x (List.mem_of_getElem? hx2)
      have HX1 := Lib.hid hx1
      have HX2 := Lib.hid hx2
      clear hx1 hx2 hb
      obtain ⟨f0, t0, c⟩ := x
      simp only at hx3 e0 e1 e2 hxok hxw
      have HXW := Lib.hid hxw
      clear hxw
      subst hx3
      obtain ⟨t, rfl⟩ : ∃ t : Nat, t0 = (t : Int) := ⟨t0.toNat, by omega⟩
      have ht : t < N := by omega
      have u1 : (0 : Int) ≤ (t : Int) := by omega
      have u2 : (t : Int) < (N : Int) := by omega
      have hc1 : -1099511627776 ≤ c := hxok.2.2.1
      have hc2 : c ≤ 1099511627776 := hxok.2.2.2
      clear hxok
      have u3 : (0 : Int) ≤ (k : Int) := by omega
      have u4 : (k : Int) < (len : Int) := by omega
      have x1 := HX.out.gcell
      have HXA := Lib.hid (HX.out.later ((Below.refl wr.heap.size wr).alloc (Nat.le_refl _) (.cells #[.int .i64 (i : Int), .int .i64 (t : Int), .int .i64 c] 88)))
      have y0 := HXA.out.t0
      have y1 := HXA.out.t1
      have y2 := HXA.out.far.cell ht
      have hw1 : IntKind.i64.wrap (p + c) = p + c := by rw [IntKind.wrap_i64]; omega
      by_cases hge : p + c < valI far2 t
      · have HGE := Lib.hid hge
        generalize hy : valI far2 t = y at y2 hge
        have HY := Lib.hid hy; clear hy
        have hgb : decide (p + c < y) = true := by simpa using hge
        clear hge
        go_wp2_with fail
        go_quiet (fail)
        go_wp2_with fail
        have HX5 := Lib.hid (HXA.out.later ((below_drewN (Below.refl _ _) nq).drew))
        have HNE : Hid ((¬ tb = gf ∧ ¬ wr.heap.size = gf ∧ ¬ tb = gb ∧ ¬ wr.heap.size = gb)) := Lib.hid (by
          have a1 := HX.out.o1; have a2 := HX.out.o2; have a3 := HX.out.o3; have a4 := HX.out.o4; have a5 := HX.out.o5; have a6 := HX.out.adj.lt; have a7 := HX.out.far.base_; have a8 := HX.out.by_.base_; omega)
        have z3 := HXA.out.by_.cell ht
        have z4 := HXA.out.far.frozen t
        have z5 := HXA.out.by_.frozen t
        have z6 := HXA.out.ne
        generalize by2 t = oldk at z3
        have HA0 : Hid (LkRN tb gf cf gb cb N wr.heap.size (t : Int) c (World.drew (World.drewN (wr.alloc (.cells #[.int .i64 (i : Int), .int .i64 (t : Int), .int .i64 c] 88)) nq))) := Lib.hid ⟨y0, y1, by simp, by simp, (Array.getElem?_eq_some_iff.1 HX5.out.tr).1, by simp⟩
        refine wp_region_held_drew (S := LkRN tb gf cf gb cb N wr.heap.size (t : Int) c) (by kernel_rfl) HA0.out (fun hHeld => ?_)
        refine wpAnyH_take (i := 0) (v := ?_) rfl (by kernel_rfl) (by kernel_rfl) (by kernel_rfl) (fun _ _ _ h => h) (Or.inl ⟨by rfl, ?_⟩) hHeld ?_
        rotate_left
        · intro W0 hW; obtain ⟨hW1, hW2, hW3, hW4, hW5, hW6⟩ := hW; go_simp; (try with_reducible rfl)
        try simp only [Act.put, List.setIfInBounds_toArray, List.set_cons_zero, List.set_cons_succ, List.getElem_toArray, List.getElem_cons_zero]
        refine wpAnyH_take (i := 1) (v := ?_) rfl (by kernel_rfl) (by kernel_rfl) (by kernel_rfl) (fun _ _ _ h => h) (Or.inl ⟨by rfl, ?_⟩) hHeld ?_
        rotate_left
        · intro W0 hW; obtain ⟨hW1, hW2, hW3, hW4, hW5, hW6⟩ := hW; go_simp; (try with_reducible rfl)
        try simp only [Act.put, List.setIfInBounds_toArray, List.set_cons_zero, List.set_cons_succ, List.getElem_toArray, List.getElem_cons_zero, List.getElem_cons_succ]
        refine wpAnyH_take (i := 2) (v := ?_) rfl (by kernel_rfl) (by kernel_rfl) (by kernel_rfl) (fun _ _ _ h => h) (Or.inl ⟨by rfl, ?_⟩) hHeld ?_
        rotate_left
        · intro W0 hW; obtain ⟨hW1, hW2, hW3, hW4, hW5, hW6⟩ := hW; go_simp; (try with_reducible rfl)
        try simp only [Act.put, List.setIfInBounds_toArray, List.set_cons_zero, List.set_cons_succ, List.getElem_toArray, List.getElem_cons_zero, List.getElem_cons_succ]
        refine wpAnyH_take (i := 3) (v := ?_) rfl (by kernel_rfl) (by kernel_rfl) (by kernel_rfl) (fun _ _ _ h => h) (Or.inl ⟨by rfl, ?_⟩) hHeld ?_
        rotate_left
        · intro W0 hW; obtain ⟨hW1, hW2, hW3, hW4, hW5, hW6⟩ := hW; go_simp; (try with_reducible rfl)
        try simp only [Act.put, List.setIfInBounds_toArray, List.set_cons_zero, List.set_cons_succ, List.getElem_toArray, List.getElem_cons_zero, List.getElem_cons_succ]
        refine wpAnyH_take (i := 4) (v := ?_) rfl (by kernel_rfl) (by kernel_rfl) (by kernel_rfl) (fun _ _ _ h => h) (Or.inl ⟨by rfl, ?_⟩) hHeld ?_
        rotate_left
        · intro W0 hW; obtain ⟨hW1, hW2, hW3, hW4, hW5, hW6⟩ := hW; go_simp; (try with_reducible rfl)
        try simp only [Act.put, List.setIfInBounds_toArray, List.set_cons_zero, List.set_cons_succ, List.getElem_toArray, List.getElem_cons_zero, List.getElem_cons_succ]
        refine wpAnyH_take (i := 5) (v := ?_) rfl (by kernel_rfl) (by kernel_rfl) (by kernel_rfl) (fun _ _ _ h => h) (Or.inl ⟨by rfl, ?_⟩) hHeld ?_
        rotate_left
        · intro W0 hW; obtain ⟨hW1, hW2, hW3, hW4, hW5, hW6⟩ := hW; go_simp; (try with_reducible rfl)
        try simp only [Act.put, List.setIfInBounds_toArray, List.set_cons_zero, List.set_cons_succ, List.getElem_toArray, List.getElem_cons_zero, List.getElem_cons_succ]
        refine wpAnyH_take (i := 6) (v := ?_) rfl (by kernel_rfl) (by kernel_rfl) (by kernel_rfl) (fun _ _ _ h => h) (Or.inl ⟨by rfl, ?_⟩) hHeld ?_
        rotate_left
        · intro W0 hW; obtain ⟨hW1, hW2, hW3, hW4, hW5, hW6⟩ := hW; go_simp; (try with_reducible rfl)
        try simp only [Act.put, List.setIfInBounds_toArray, List.set_cons_zero, List.set_cons_succ, List.getElem_toArray, List.getElem_cons_zero, List.getElem_cons_succ]
        refine wpAnyH_take (i := 7) (v := ?_) rfl (by kernel_rfl) (by kernel_rfl) (by kernel_rfl) (fun _ _ _ h => h) (Or.inl ⟨by rfl, ?_⟩) hHeld ?_
        rotate_left
        · intro W0 hW; obtain ⟨hW1, hW2, hW3, hW4, hW5, hW6⟩ := hW; go_simp; (try with_reducible rfl)
        try simp only [Act.put, List.setIfInBounds_toArray, List.set_cons_zero, List.set_cons_succ, List.getElem_toArray, List.getElem_cons_zero, List.getElem_cons_succ]
        refine wpAnyH_take (i := 8) (v := ?_) rfl (by kernel_rfl) (by kernel_rfl) (by kernel_rfl) (fun _ _ _ h => h) (Or.inl ⟨by rfl, ?_⟩) hHeld ?_
        rotate_left
        · intro W0 hW; obtain ⟨hW1, hW2, hW3, hW4, hW5, hW6⟩ := hW; go_simp; (try with_reducible rfl)
        try simp only [Act.put, List.setIfInBounds_toArray, List.set_cons_zero, List.set_cons_succ, List.getElem_toArray, List.getElem_cons_zero, List.getElem_cons_succ]
        refine wpAnyH_take (i := 9) (v := ?_) rfl (by kernel_rfl) (by kernel_rfl) (by kernel_rfl) (fun _ _ _ h => h) (Or.inl ⟨by rfl, ?_⟩) hHeld ?_
        rotate_left
        · intro W0 hW; obtain ⟨hW1, hW2, hW3, hW4, hW5, hW6⟩ := hW; go_simp; (try with_reducible rfl)
        try simp only [Act.put, List.setIfInBounds_toArray, List.set_cons_zero, List.set_cons_succ, List.getElem_toArray, List.getElem_cons_zero, List.getElem_cons_succ]
        refine wpAnyH_take (i := 10) (v := ?_) rfl (by kernel_rfl) (by kernel_rfl) (by kernel_rfl) (fun _ _ _ h => h) (Or.inl ⟨by rfl, ?_⟩) hHeld ?_
        rotate_left
        · intro W0 hW; obtain ⟨hW1, hW2, hW3, hW4, hW5, hW6⟩ := hW; go_simp; (try with_reducible rfl)
        try simp only [Act.put, List.setIfInBounds_toArray, List.set_cons_zero, List.set_cons_succ, List.getElem_toArray, List.getElem_cons_zero, List.getElem_cons_succ]
        refine wpAnyH_take (i := 11) (v := ?_) rfl (by kernel_rfl) (by kernel_rfl) (by kernel_rfl) (fun _ _ _ h => h) (Or.inl ⟨by rfl, ?_⟩) hHeld ?_
        rotate_left
        · intro W0 hW; obtain ⟨hW1, hW2, hW3, hW4, hW5, hW6⟩ := hW; go_simp; (try with_reducible rfl)
        try simp only [Act.put, List.setIfInBounds_toArray, List.set_cons_zero, List.set_cons_succ, List.getElem_toArray, List.getElem_cons_zero, List.getElem_cons_succ]
        try simp only [hw1]
        refine wpAnyH_take (i := 12) (v := ?_) rfl (by kernel_rfl) (by kernel_rfl) (by kernel_rfl) (fun _ _ _ h => h) (Or.inl ⟨by rfl, ?_⟩) hHeld ?_
        rotate_left
        · intro W0 hW; obtain ⟨hW1, hW2, hW3, hW4, hW5, hW6⟩ := hW; go_simp; (try with_reducible rfl)
        try simp only [Act.put, List.setIfInBounds_toArray, List.set_cons_zero, List.set_cons_succ, List.getElem_toArray, List.getElem_cons_zero, List.getElem_cons_succ]
        refine wpAnyH_take (i := 13) (v := ?_) rfl (by kernel_rfl) (by kernel_rfl) (by kernel_rfl) (fun _ _ _ h => h) (Or.inl ⟨by rfl, ?_⟩) hHeld ?_
        rotate_left
        · intro W0 hW; obtain ⟨hW1, hW2, hW3, hW4, hW5, hW6⟩ := hW; go_simp; (try with_reducible rfl)
        try simp only [Act.put, List.setIfInBounds_toArray, List.set_cons_zero, List.set_cons_succ, List.getElem_toArray, List.getElem_cons_zero, List.getElem_cons_succ]
        refine wpAnyH_ready (rs := [14]) (by kernel_rfl) (by simp) ?_
        refine AllReadyH.cons rfl (fun K hK => ?_) AllReadyH.nil
        go_simp
        refine hK.out _ _ ?_ (fun hHeld => ?_)
        · exact hHeld.mod ((Mod.refl (fun b => b = gf) _).setCell (p := ⟨gf, t, none⟩) (.inr rfl) _) HNE.out.1 HNE.out.2.1
        clear hK K
        try simp only [Act.put, List.setIfInBounds_toArray, List.set_cons_zero, List.set_cons_succ, List.getElem_toArray, List.getElem_cons_zero, List.getElem_cons_succ]
        refine wpAnyH_take (i := 15) (v := ?_) rfl (by kernel_rfl) (by kernel_rfl) (by kernel_rfl) (fun _ _ _ h => h) (Or.inl ⟨by rfl, ?_⟩) hHeld ?_
        rotate_left
        · intro W0 hW; obtain ⟨hW1, hW2, hW3, hW4, hW5, hW6⟩ := hW; go_simp; (try with_reducible rfl)
        try simp only [Act.put, List.setIfInBounds_toArray, List.set_cons_zero, List.set_cons_succ, List.getElem_toArray, List.getElem_cons_zero, List.getElem_cons_succ]
        refine wpAnyH_ready (rs := [16]) (by kernel_rfl) (by simp) ?_
        refine AllReadyH.cons rfl (fun K hK => ?_) AllReadyH.nil
        go_simp
        refine hK.out _ _ ?_ (fun hHeld => ?_)
        · exact hHeld.mod ((Mod.refl (fun b => b = gb) _).setCell (p := ⟨gb, t, none⟩) (.inr rfl) _) HNE.out.2.2.1 HNE.out.2.2.2
        clear hK K
        try simp only [Act.put, List.setIfInBounds_toArray, List.set_cons_zero, List.set_cons_succ, List.getElem_toArray, List.getElem_cons_zero, List.getElem_cons_succ]
        refine wpAnyH_done (by kernel_rfl) ?_ _
        obtain ⟨_, _, q3, _⟩ := hHeld
        have HW6 := Lib.hid ((HX5.out.set_ ht (p + c) (k : Int)).congr (by2 := fun i => if i = t then (k : Int) else by2 i) (fun i _ => valI_farSet t i (p + c)) (fun _ _ => rfl))
        have HR6 := Lib.hid (HR.out.yes HOK.out HXW.out HX1.out HX2.out rfl rfl ht HGE.out)
        have HM6 : Hid (Mod (NS gf gb b v) w (((((wr.alloc (.cells #[.int .i64 (i : Int), .int .i64 (t : Int), .int .i64 c] 88)).drewN nq).drew).setCell ⟨gf, t, none⟩ (.int .i64 (p + c))).setCell ⟨gb, t, none⟩ (.int .i64 (k : Int)))) := Lib.hid (HM.out.1.trans ((((((Mod.refl (NS gf gb b v) wr).alloc (.cells #[.int .i64 (i : Int), .int .i64 (t : Int), .int .i64 c] 88)).drewN nq).drew).trans (ns_mod _ gf gb b t v (.int .i64 (p + c)) (.int .i64 (k : Int))))))
        have HVT : Hid (valI (farSet far2 t (p + c)) t = p + c) := Lib.hid (by rw [← valI_farSet]; simp)
        have HQ2 : Hid (Q2.length ≤ 50000) := Lib.hid (by omega)
        go_wp2_with (go_at_call 57; refine (tellN_any ht HQ2.out _ HW6.out).mono ?_; rw [HVT.out]; rintro e w6 ⟨rfl, v3, hN3, hT3⟩; have HW7 := Lib.hid hN3; have HM7 : Hid (Mod (NS gf gb b v) w w6 ∧ FrN w.heap.size v v3) := Lib.hid ⟨HM.out.2.mod HM6.out hT3, HM.out.2.next HM6.out.size hT3⟩; clear hN3 hT3)
        go_roundw
        case rel => exact ⟨j + 1, _, _, _, _, by go_num, by omega, (by simp only [List.length_cons]; omega), HW7, HR6, HM7⟩
        case measure => simp [intOf]; omega
      · have HGE := Lib.hid hge
        generalize hy : valI far2 t = y at y2 hge
        have HY := Lib.hid hy; clear hy
        have hgb : decide (p + c < y) = false := by simpa using hge
        clear hge
        go_wp2_with fail
        go_quiet (fail)
        have HX5 := Lib.hid (HXA.out.later (below_drewN (Below.refl _ _) nq))
        have HR6 := Lib.hid (HR.out.no HOK.out hN HX1.out HX2.out rfl rfl (show ¬ p + c < valI far2 t by have := HGE.out; omega))
        have HM6 : Hid (Mod (NS gf gb b v) w ((wr.alloc (.cells #[.int .i64 (i : Int), .int .i64 (t : Int), .int .i64 c] 88)).drewN nq) ∧ FrN w.heap.size v v2) := Lib.hid ⟨HM.out.1.trans (((Mod.refl (NS gf gb b v) wr).alloc (.cells #[.int .i64 (i : Int), .int .i64 (t : Int), .int .i64 c] 88)).drewN nq), HM.out.2⟩
        go_wp2_with fail
        go_roundw
        case rel => exact ⟨j + 1, _, _, _, _, by go_num, by omega, by omega, HX5, HR6, HM6⟩
        case measure => simp [intOf]; omega
    · have hjn : j = n := by omega
      subst hjn
      go_wp2_with fail
      go_end0
      exact ⟨rfl, _, _, _, _, HX.out, (by rw [HN.out]; exact HR.out), (by rw [HN.out]; exact hq2), HM.out.1, HM.out.2⟩
end Go.Proofs.Ytchdpapaojkbhaa
end
section
/- Package path: Near's own memory: which nodes are done; the thing that was taken. -/
namespace Go.Proofs.Ytchdpapaojkbhaa
open Go.RowKit

variable {w w0 wr w2 : World} {a : Option Addr} {len cap K co g tb tn nx gf cf gb cb L b N i j k t s D rs bx u : Nat} {l : List Ar} {V : Nat → Value} {f by_ : Nat → Int} {v v' : Value} {Q : List It} {x y : It} {dn : Nat → Bool} {S : Nat → Prop}
/-- What is written neither there nor in the pile. -/
theorem NearW.aside (h : NearW w0 wr K co g tb tn nx gf cf gb cb L b N a len cap V l f by_ v Q) (hm : Mod S wr w2) (hS : ∀ k, S k → K ≤ k ∧ k ≠ b ∧ k ≠ nx ∧ v.ownBlock ≠ some k) : NearW w0 w2 K co g tb tn nx gf cf gb cb L b N a len cap V l f by_ v Q := by
  have a1 := h.o1
  have a2 := h.o2
  have a3 := h.o3
  have a4 := h.o4
  have a5 := h.o5
  have a6 := h.o6
  have a7 := h.adj.lt
  have a8 := h.adj.ge
  have no : ∀ k, k < K → ¬ S k := fun k hk hs => by have := (hS k hs).1; omega
  obtain ⟨c1, c2, c3, c4, c5, c6⟩ := h.frame hm (fun k _ _ e => no k e) (fun hs => (hS nx hs).2.2.1 rfl) (fun k e => no k (by omega))
  refine ⟨c1, c2, c3, c4, c5, c6, h.far.kept hm (fun k hk => ?_), h.by_.kept hm (fun k hk => ?_), h.pile.kept hm (fun hs => (hS b hs).2.1 rfl) (fun k hk hs => (hS k hs).2.2.2 hk) (fun k hs => by have := (hS k hs).1; omega), h.ne, h.o1, h.o2, h.o3, h.o4, h.o5, h.o6, h.o7, h.o8, h.rows, h.pv⟩
  · have e2 : gf = k := Option.some.inj hk
    exact no k (by omega)
  · have e2 : gb = k := Option.some.inj hk
    exact no k (by omega)
structure NearP (w0 wr : World) (K D rs N b nx gf gb : Nat) (dn : Nat → Bool) (v : Value) : Prop where
  dr : wr.rowIs D 4 N (fun i => .bool (dn i))
  res : wr.heap[rs]? = some (.cells #[.slice none 0 0, .slice none 0 0] 84 (0, 0))
  k1 : K ≤ D
  k2 : D < b
  k3 : b < nx
  k4 : nx < wr.heap.size
  r1 : w0.heap.size ≤ rs
  r2 : rs < gf
  r3 : rs < gb
  r4 : gf < K
  r5 : gb < K
  pn : ∀ k, v.ownBlock = some k → nx < k
structure BxN (wr : World) (nx : Nat) (v : Value) (bx : Nat) (x : It) : Prop where
  blk : wr.heap[bx]? = some (.cells #[.int .i64 x.1, .int .i64 x.2] 105 (0, 0))
  gt : nx < bx
  pv : v.ownBlock ≠ some bx
theorem NearP.later (h : NearP w0 wr K D rs N b nx gf gb dn v) (hb : Below wr.heap.size wr w2) : NearP w0 w2 K D rs N b nx gf gb dn v :=
  ⟨rowIs_below h.dr hb, (hb.block rs (Array.getElem?_eq_some_iff.1 h.res).1).trans h.res, h.k1, h.k2, h.k3, Nat.lt_of_lt_of_le h.k4 hb.size, h.r1, h.r2, h.r3, h.r4, h.r5, h.pn⟩
theorem BxN.later (h : BxN wr nx v bx x) (hb : Below wr.heap.size wr w2) : BxN w2 nx v bx x := ⟨(hb.block bx (Array.getElem?_eq_some_iff.1 h.blk).1).trans h.blk, h.gt, h.pv⟩
theorem NearP.look (h : NearP w0 wr K D rs N b nx gf gb dn v) (hm : Mod (NS gf gb b v) wr w2) (hf : FrN wr.heap.size v v') : NearP w0 w2 K D rs N b nx gf gb dn v' := by
  have a1 := h.k1
  have a2 := h.k2
  have a3 := h.k3
  have a4 := h.k4
  have b2 := h.r2
  have b3 := h.r3
  have b4 := h.r4
  have b5 := h.r5
  refine ⟨h.dr.of_block (hm.block D h.dr.lt (fun hs => ?_)), (hm.block rs (Array.getElem?_eq_some_iff.1 h.res).1 (fun hs => ?_)).trans h.res, h.k1, h.k2, h.k3, Nat.lt_of_lt_of_le h.k4 hm.size, h.r1, h.r2, h.r3, h.r4, h.r5, fun k hk => ?_⟩
  · rcases hs with hs | hs | hs | hs
    · omega
    · omega
    · omega
    · have := h.pn D hs; omega
  · rcases hs with hs | hs | hs | hs
    · omega
    · omega
    · omega
    · have := h.pn rs hs; omega
  · rcases hf with e | ⟨g2, e, e2⟩
    · exact h.pn k (e ▸ hk)
    · rw [e] at hk
      injection hk with hk
      omega
theorem BxN.look (h : BxN wr nx v bx x) (hP : NearP w0 wr K D rs N b nx gf gb dn v) (hm : Mod (NS gf gb b v) wr w2) (hf : FrN wr.heap.size v v') : BxN w2 nx v' bx x := by
  have a1 := hP.k1
  have a2 := hP.k2
  have a3 := hP.k3
  have b4 := hP.r4
  have b5 := hP.r5
  have c1 := h.gt
  have hlt := (Array.getElem?_eq_some_iff.1 h.blk).1
  refine ⟨(hm.block bx hlt (fun hs => ?_)).trans h.blk, h.gt, fun e2 => ?_⟩
  · rcases hs with hs | hs | hs | hs
    · omega
    · omega
    · omega
    · exact h.pv hs
  · rcases hf with e | ⟨g2, e, e3⟩
    · exact h.pv (e ▸ e2)
    · rw [e] at e2
      injection e2 with e2
      omega
theorem BxN.new (hP : NearP w0 wr K D rs N b nx gf gb dn v) (hv : ∀ k, v.ownBlock = some k → k < wr.heap.size) (x : It) : BxN (wr.alloc (.cells #[.int .i64 x.1, .int .i64 x.2] 105)) nx v wr.heap.size x :=
  ⟨heap_alloc_new _ _, hP.k4, fun e => by have := hv _ e; omega⟩
theorem BxN.cells (h : BxN wr nx v bx x) : wr.cell? ⟨bx, 0, none⟩ = some (.int .i64 x.1) ∧ wr.cell? ⟨bx, 1, none⟩ = some (.int .i64 x.2) := by
  have := h.blk
  simp [World.cell?, this]
theorem BxN.frozen (h : BxN wr nx v bx x) (i : Nat) : wr.frozen? ⟨bx, i, none⟩ = false := by
  have := h.blk
  simp [World.frozen?, this]
theorem bx_mod (wr : World) (bx : Nat) (y : It) : Mod (fun k => k = bx) wr ((wr.setCell ⟨bx, 0, none⟩ (.int .i64 y.1)).setCell ⟨bx, 1, none⟩ (.int .i64 y.2)) := ((Mod.refl (fun k => k = bx) wr).setCell (p := ⟨bx, 0, none⟩) (.inr rfl) _).setCell (p := ⟨bx, 1, none⟩) (.inr rfl) _
theorem BxN.put_ (h : BxN wr nx v bx x) (y : It) : BxN ((wr.setCell ⟨bx, 0, none⟩ (.int .i64 y.1)).setCell ⟨bx, 1, none⟩ (.int .i64 y.2)) nx v bx y := by
  refine ⟨?_, h.gt, h.pv⟩
  rw [heap_setCell_same _ bx 1 _ _ _ (heap_setCell_same wr bx 0 _ _ _ h.blk)]
  rfl
theorem NearP.put_ (h : NearP w0 wr K D rs N b nx gf gb dn v) (hx : BxN wr nx v bx x) (y : It) : NearP w0 ((wr.setCell ⟨bx, 0, none⟩ (.int .i64 y.1)).setCell ⟨bx, 1, none⟩ (.int .i64 y.2)) K D rs N b nx gf gb dn v := by
  have hm := bx_mod wr bx y
  have a1 := h.k1
  have a2 := h.k2
  have a3 := h.k3
  have b2 := h.r2
  have b4 := h.r4
  have c1 := hx.gt
  exact ⟨h.dr.of_block (hm.block D h.dr.lt (fun (e : D = bx) => by omega)), (hm.block rs (Array.getElem?_eq_some_iff.1 h.res).1 (fun (e : rs = bx) => by omega)).trans h.res, h.k1, h.k2, h.k3, Nat.lt_of_lt_of_le h.k4 hm.size, h.r1, h.r2, h.r3, h.r4, h.r5, h.pn⟩
theorem NearW.put_ (h : NearW w0 wr K co g tb tn nx gf cf gb cb L b N a len cap V l f by_ v Q) (hx : BxN wr nx v bx x) (y : It) : NearW w0 ((wr.setCell ⟨bx, 0, none⟩ (.int .i64 y.1)).setCell ⟨bx, 1, none⟩ (.int .i64 y.2)) K co g tb tn nx gf cf gb cb L b N a len cap V l f by_ v Q :=
  h.aside (bx_mod wr bx y) (fun k (e : k = bx) => by
    have := h.o7
    have := h.o8
    have := hx.gt
    subst e
    exact ⟨by omega, by omega, by omega, hx.pv⟩)
/-- A node is done. -/
theorem d_mod (wr : World) (D u : Nat) : Mod (fun k => k = D) wr (wr.setCell ⟨D, u, none⟩ (.bool true)) := (Mod.refl (fun k => k = D) wr).setCell (p := ⟨D, u, none⟩) (.inr rfl) _
theorem NearP.mark (h : NearP w0 wr K D rs N b nx gf gb dn v) (u : Nat) : NearP w0 (wr.setCell ⟨D, u, none⟩ (.bool true)) K D rs N b nx gf gb (markN dn u) v := by
  have hm := d_mod wr D u
  have a1 := h.k1
  have b2 := h.r2
  have b4 := h.r4
  exact ⟨(h.dr.set u _).congr (fun j _ => by unfold markN; split <;> rfl), (hm.block rs (Array.getElem?_eq_some_iff.1 h.res).1 (fun (e : rs = D) => by omega)).trans h.res, h.k1, h.k2, h.k3, Nat.lt_of_lt_of_le h.k4 hm.size, h.r1, h.r2, h.r3, h.r4, h.r5, h.pn⟩
theorem BxN.mark (h : BxN wr nx v bx x) (hP : NearP w0 wr K D rs N b nx gf gb dn v) (u : Nat) : BxN (wr.setCell ⟨D, u, none⟩ (.bool true)) nx v bx x := by
  have a2 := hP.k2
  have a3 := hP.k3
  have c1 := h.gt
  exact ⟨((d_mod wr D u).block bx (Array.getElem?_eq_some_iff.1 h.blk).1 (fun (e : bx = D) => by omega)).trans h.blk, h.gt, h.pv⟩
theorem NearW.mark (h : NearW w0 wr K co g tb tn nx gf cf gb cb L b N a len cap V l f by_ v Q) (hP : NearP w0 wr K D rs N b nx gf gb dn v) (u : Nat) : NearW w0 (wr.setCell ⟨D, u, none⟩ (.bool true)) K co g tb tn nx gf cf gb cb L b N a len cap V l f by_ v Q :=
  h.aside (d_mod wr D u) (fun k (e : k = D) => by
    have := hP.k1
    have := hP.k2
    have := hP.k3
    subst e
    exact ⟨by omega, by omega, by omega, fun e2 => by have := hP.pn _ e2; omega⟩)
theorem NearP.piled (h : NearP w0 wr K D rs N b nx gf gb dn v) (ht : Turned b v v' wr w2) : NearP w0 w2 K D rs N b nx gf gb dn v' := h.look (ns_pile ht.mod) ht.fresh
theorem BxN.piled (h : BxN wr nx v bx x) (hP : NearP w0 wr K D rs N b nx gf gb dn v) (ht : Turned b v v' wr w2) : BxN w2 nx v' bx x := h.look hP (ns_pile ht.mod) ht.fresh
/-- Take, of the search's pile. -/
theorem took_srch {far : Nat → Option Int} {ok : Bool} {p : List It} (ht : TookK Q ok x p) (H : SrchH l s N far dn Q) :
    (ok = true ∧ Q.length = p.length + 1 ∧ SrchH l s N far dn (x :: p) ∧ ∀ y ∈ p, x.1 ≤ y.1) ∨ (ok = false ∧ p = [] ∧ SrchH l s N far dn []) := by
  rcases ht with ⟨rfl, h1, h2⟩ | ⟨rfl, rfl, rfl⟩
  · refine .inl ⟨rfl, by simpa using h1.length_eq, H.perm h1, fun y hy => ?_⟩
    have := h2 y (h1.mem_iff.2 (List.mem_cons_of_mem _ hy))
    unfold Le at this
    omega
  · exact .inr ⟨rfl, rfl, H⟩
/-- The state at the head of the search. -/
def HeadN (l : List Ar) (s N : Nat) (far : Nat → Option Int) (dn : Nat → Bool) (x : It) (p : List It) (ok : Bool) (gn : Nat) : Prop :=
  (ok = true ∧ (p.length : Int) + 1 + leftD N l dn < gn ∧ gn ≤ 20002 ∧ SrchH l s N far dn (x :: p) ∧ ∀ y ∈ p, x.1 ≤ y.1) ∨ (ok = false ∧ SrchH l s N far dn [] ∧ p = [])
theorem headN_of {far : Nat → Option Int} {ok : Bool} {p : List It} {gn : Nat} (ht : TookK Q ok x p) (H : SrchH l s N far dn Q) (h1 : (Q.length : Int) + leftD N l dn < gn) (h2 : gn ≤ 20002) : HeadN l s N far dn x p ok gn := by
  rcases took_srch ht H with ⟨e1, e2, e3, e4⟩ | ⟨e1, e2, e3⟩
  · exact .inl ⟨e1, by omega, h2, e3, e4⟩
  · exact .inr ⟨e1, e3, e2⟩
end Go.Proofs.Ytchdpapaojkbhaa
end
section
/- slices.ContainsFunc at arcs: none weighs less than nothing. -/
namespace Go.Proofs.Ytchdpapaojkbhaa
open Go.RowKit

variable {w wr w2 : World} {a : Option Addr} {len cap : Nat} {l : List Ar}
theorem lightArc_any (x : Ar) (h : 0 ≤ x.2.2) (w : World) : Calls Try.prog 51 #[.agg #[.int .i64 x.1, .int .i64 x.2.1, .int .i64 x.2.2]] w fun e w' => e = .returned (.bool false) ∧ Below w.heap.size w w' := by
  obtain ⟨x1, x2, x3⟩ := x
  simp only at h
  have HB := Lib.hid ((Below.refl w.heap.size w).alloc (Nat.le_refl _) (.cells #[.int .i64 x1, .int .i64 x2, .int .i64 x3] 88))
  have hd : decide (x3 < 0) = false := by simp; omega
  clear h
  go_enter Try.func51, Try.ntmps51
  go_wp2_with fail
  go_ret
  exact ⟨rfl, HB.out⟩
set_option maxHeartbeats 2000000 in
theorem indexArc_none (hl2 : len ≤ 20000) (hw : ∀ x ∈ l, 0 ≤ x.2.2) (hl : IsArcs w.heap.size w a len l) :
    Calls Try.prog 60 #[.slice a len cap, .func (.func 51) #[] #[]] w fun e w' => e = .returned (.int .i64 (-1)) ∧ Below w.heap.size w w' := by
  have HL := Lib.hid hl
  have HW := Lib.hid hw
  have HB0 : Hid (Below w.heap.size w w) := Lib.hid (Below.refl _ _)
  clear hl hw
  go_enter Try.func60, Try.ntmps60
  go_wp2_with fail
  go_loopw [8] (fun iv wr => ∃ k : Nat, iv = .int .i64 k ∧ k ≤ len ∧ Hid (Below w.heap.size w wr)) (fun iv _ => len - (intOf iv).toNat)
  case atStart => exact ⟨0, rfl, Nat.zero_le _, HB0⟩
  case round =>
    obtain ⟨k, rfl, hk, HB⟩ := hrel
    clear HB0
    by_cases hlt : k < len
    · obtain ⟨pb, off, x, rfl, hpb, hx, p0, p1, p2⟩ := (HL.out.later HB.out).at_ hlt
      have HC := Lib.hid (lightArc_any x (HW.out x (List.mem_of_getElem? hx)) wr)
      clear hx
      go_wp2_with (go_at_call 51; refine HC.out.mono ?_; rintro e w3 ⟨rfl, hb3⟩; have HB3 := Lib.hid (HB.out.trans (hb3.mono HB.out.size)); clear hb3)
      go_roundw
      case rel => exact ⟨k + 1, by go_num, by omega, HB3⟩
      case measure => simp [intOf]; omega
    · go_wp2_with fail
      go_ret
      exact ⟨rfl, HB.out⟩
theorem containsArc_none (hl2 : len ≤ 20000) (hw : ∀ x ∈ l, 0 ≤ x.2.2) (hl : IsArcs w.heap.size w a len l) :
    Calls Try.prog 50 #[.slice a len cap, .func (.func 51) #[] #[]] w fun e w' => e = .returned (.bool false) ∧ Below w.heap.size w w' := by
  have HC := Lib.hid (indexArc_none (cap := cap) hl2 hw hl)
  clear hl hw
  go_enter Try.func50, Try.ntmps50
  go_wp2_with (go_at_call 60; refine HC.out.mono ?_; rintro e w3 ⟨rfl, hb3⟩; have HB3 := Lib.hid hb3; clear hb3)
  go_ret
  exact ⟨rfl, HB3.out⟩
end Go.Proofs.Ytchdpapaojkbhaa
end
section
/- Package path: Near: the search over the pile, walked. -/
namespace Go.Proofs.Ytchdpapaojkbhaa
open Go.RowKit

variable {w w0 wr w1 w2 : World} {a : Option Addr} {len cap K co g tb tn nx gf cf gb cb L b N i j k t s D rs bx u : Nat} {l : List Ar} {V : Nat → Value} {f by_ : Nat → Int} {v v' : Value} {Q : List It} {x y : It} {dn : Nat → Bool}
/-- What Near answers: how far each node is. -/
def NearP_ (l : List Ar) (s N : Nat) (w : World) (e : Ending) (w' : World) : Prop := Below w.heap.size w w' ∧ ∃ (gf cf : Nat) (vb : Value) (far : Nat → Option Int) (dn : Nat → Bool) (by_ : Nat → Int), e = .returned (.tuple #[.agg #[.slice (some ⟨gf, 0, none⟩) N cf, vb], .int .i64 0]) ∧
  LongRow w' w.heap.size (.slice (some ⟨gf, 0, none⟩) N cf) N (valI far) ∧ IntRow w' w.heap.size vb N by_ ∧ SrchH l s N far dn []
/-- The box, the result's block, behind each call. -/
structure NrBox (w wr : World) (N : Nat) (a : Option Addr) (len cap : Nat) : Prop where
  box : Box w wr w.heap.size (N : Int) a len cap
  res : wr.heap[w.heap.size + 1]? = some (.cells #[.slice none 0 0, .slice none 0 0] 84 (0, 0))
theorem NrBox.make (w : World) (N : Nat) (a : Option Addr) (len cap : Nat) : NrBox w ((w.alloc (.cells #[.int .i64 (N : Int), .slice a len cap] 71)).alloc (.cells #[.slice none 0 0, .slice none 0 0] 84)) N a len cap :=
  ⟨(Box.make (Below.refl _ w) N a len cap).alloc _, heap_alloc2_new w _ _⟩
theorem NrBox.later (h : NrBox w wr N a len cap) (hb : Below wr.heap.size wr w2) : NrBox w w2 N a len cap := ⟨h.box.later hb, (hb.block _ (Array.getElem?_eq_some_iff.1 h.res).1).trans h.res⟩
/-- All that the search begins with. -/
theorem near_begin {w3 w5 : World} (H3 : NrBox w w3 N a len cap) (hl : IsArcs w.heap.size w a len l) (hf : LongRow w3 w2.heap.size (.slice (some ⟨gf, 0, none⟩) N N) N f) (hb : IntRow w3 w2.heap.size (.slice (some ⟨gb, 0, none⟩) N N) N by_) (hne : gf ≠ gb) (h2 : w.heap.size + 2 ≤ w2.heap.size)
    (hL : LookerW (w3.alloc (.cells #[.slice (some ⟨gf, 0, none⟩) N N, .slice (some ⟨gb, 0, none⟩) N N] 84)) w5 tb g (.slice (some ⟨gf, 0, none⟩) N N) (.slice (some ⟨gb, 0, none⟩) N N) (N : Int) a len cap co L N V (outK l)) (htb : (w3.alloc (.cells #[.slice (some ⟨gf, 0, none⟩) N N, .slice (some ⟨gb, 0, none⟩) N N] 84)).heap.size ≤ tb) :
    NearW w (((w5.alloc (.cells (madeCells #[.bool false] N) 4)).alloc (.cells #[.slice none 0 0] 116)).alloc (.cells #[.pointer (some ⟨w5.heap.size + 1, 0, none⟩)] 101)) w5.heap.size co g tb w3.heap.size (w5.heap.size + 1 + 1) gf N gb N L (w5.heap.size + 1) N a len cap V l f by_ (.slice none 0 0) [] ∧
    NearP w (((w5.alloc (.cells (madeCells #[.bool false] N) 4)).alloc (.cells #[.slice none 0 0] 116)).alloc (.cells #[.pointer (some ⟨w5.heap.size + 1, 0, none⟩)] 101)) w5.heap.size w5.heap.size (w.heap.size + 1) N (w5.heap.size + 1) (w5.heap.size + 1 + 1) gf gb (fun _ => false) (.slice none 0 0) := by
  have hbT : Below w3.heap.size w3 (w3.alloc (.cells #[.slice (some ⟨gf, 0, none⟩) N N, .slice (some ⟨gb, 0, none⟩) N N] 84)) := (Below.refl _ _).alloc (Nat.le_refl _) _
  have hb5 : Below w3.heap.size w3 w5 := hbT.trans (hL.box.below.mono (by simp))
  have H5 := H3.later hb5
  have b1 := hf.base_
  have b2 := hb.base_
  have htb' : w3.heap.size + 1 ≤ tb := by simpa using htb
  have hz1 : (w5.alloc (.cells (madeCells #[.bool false] N) 4)).heap.size = w5.heap.size + 1 := by simp
  have hz2 : ((w5.alloc (.cells (madeCells #[.bool false] N) 4)).alloc (.cells #[.slice none 0 0] 116)).heap.size = w5.heap.size + 1 + 1 := by simp
  have hB5 := H5.box.below
  have hbA : Below w5.heap.size w5 (((w5.alloc (.cells (madeCells #[.bool false] N) 4)).alloc (.cells #[.slice none 0 0] 116)).alloc (.cells #[.pointer (some ⟨w5.heap.size + 1, 0, none⟩)] 101)) := (((Below.refl _ _).alloc (Nat.le_refl _) _).alloc (by simp) _).alloc (by simp; omega) _
  have hHave : Have w (w5.heap.size + 1) (.slice none 0 0) [] (((w5.alloc (.cells (madeCells #[.bool false] N) 4)).alloc (.cells #[.slice none 0 0] 116)).alloc (.cells #[.pointer (some ⟨w5.heap.size + 1, 0, none⟩)] 101)) := by
    have h := (Have.new (hB5.alloc hB5.size (.cells (madeCells #[.bool false] N) 4))).later ((Below.refl _ _).alloc (Nat.le_refl _) (.cells #[.pointer (some ⟨w5.heap.size + 1, 0, none⟩)] 101))
    rw [hz1] at h
    exact h
  have hnv : (((w5.alloc (.cells (madeCells #[.bool false] N) 4)).alloc (.cells #[.slice none 0 0] 116)).alloc (.cells #[.pointer (some ⟨w5.heap.size + 1, 0, none⟩)] 101)).heap[w5.heap.size + 1 + 1]? = some (.cells #[.pointer (some ⟨w5.heap.size + 1, 0, none⟩)] 101 (0, 0)) := by
    have h := heap_alloc_new ((w5.alloc (.cells (madeCells #[.bool false] N) 4)).alloc (.cells #[.slice none 0 0] 116)) (.cells #[.pointer (some ⟨w5.heap.size + 1, 0, none⟩)] 101)
    rw [hz2] at h
    exact h
  have hdr : (((w5.alloc (.cells (madeCells #[.bool false] N) 4)).alloc (.cells #[.slice none 0 0] 116)).alloc (.cells #[.pointer (some ⟨w5.heap.size + 1, 0, none⟩)] 101)).rowIs w5.heap.size 4 N (fun _ => .bool false) := ((World.rowIs_made w5 (.bool false) N 4).alloc _).alloc _
  have g1 := hL.lt
  have g2 := hL.lt0
  have g3 := hL.adj.lt
  have g4 := hL.adj.ltc
  have g5 := hL.adj.ge
  have g5' : w3.heap.size + 1 ≤ L := by simpa using g5
  refine ⟨⟨⟨?_, hL.adj.lt, rowIs_below hL.adj.out hbA, (hbA.block co g4).trans hL.adj.var, fun i hi => owns_below (hL.adj.row i hi) hbA, hL.adj.apart⟩, (hbA.block g hL.box.lt).trans hL.box.blk, (hbA.block tb (Array.getElem?_eq_some_iff.1 hL.tree).1).trans hL.tree, ?_, hnv, hl.later (hB5.trans (hbA.mono hB5.size)),
      ((hf.below hb5).below hbA).rebase (by omega), ((hb.below hb5).below hbA).rebase (by omega), hHave, hne, by omega, by omega, by omega, g2, g1, g4, by omega, by omega, fun i hi k hk => (World.ownsRow.lt (hL.adj.row i hi) k hk).2, fun k hk => by cases hk⟩,
    ⟨hdr, (hbA.block _ (Array.getElem?_eq_some_iff.1 H5.res).1).trans H5.res, Nat.le_refl _, by omega, by omega, by simp, by omega, by omega, by omega, by have := hb5.size; omega, by have := hb5.size; omega, fun k hk => by cases hk⟩⟩
  · have := hB5.size; have := H3.box.below.size; omega
  · have h3 : (w3.alloc (.cells #[.slice (some ⟨gf, 0, none⟩) N N, .slice (some ⟨gb, 0, none⟩) N N] 84)).heap[w3.heap.size]? = some (.cells #[.slice (some ⟨gf, 0, none⟩) N N, .slice (some ⟨gb, 0, none⟩) N N] 84 (0, 0)) := heap_alloc_new _ _
    have h4 := (hL.box.below.block w3.heap.size (by simp)).trans h3
    exact (hbA.block w3.heap.size (Array.getElem?_eq_some_iff.1 h4).1).trans h4

set_option maxHeartbeats 4000000 in
set_option maxRecDepth 100000 in
theorem near_ok (N s len cap : Nat) (l : List Ar) (a : Option Addr) (w : World) (hs : s < N) (hc : checkV (N : Int) l = 0) (hw0 : ∀ x ∈ l, 0 ≤ x.2.2) (hl : IsArcs w.heap.size w a len l) :
    Calls Try.prog 39 #[.agg #[.int .i64 (N : Int), .slice a len cap], .int .i64 (s : Int)] w (NearP_ l s N w) := by
  obtain ⟨⟨_, hN0, hlen0⟩, hok⟩ := checkV_zero.1 hc
  have hN : N ≤ 1000 := by omega
  have hlen : len ≤ 20000 := by have := hl.1; omega
  have hs1 : (0 : Int) ≤ (s : Int) := by omega
  have hs2 : (s : Int) < (N : Int) := by omega
  have HE := Lib.hid (fromErr_in hc ⟨hs1, hs2⟩)
  have HOK := Lib.hid hok
  have HWT := Lib.hid hw0
  have HL := Lib.hid hl
  have HB0 := Lib.hid (NrBox.make w N a len cap)
  have hmk := run_make_row' (P := Try.prog) 48 4 (.bool false) 1 Try.underlying48 infoBool rfl .i64 .i64 N (by omega) (by omega)
  clear hc hok hw0 hl hN0 hlen0
  go_enter Try.func39, Try.ntmps39
  go_wp2_with (first
    | (go_at_call 49; refine (pcheck_any (N : Int) (s : Int) a cap _ (HB0.out.box.arcsHere HL.out)).mono ?_; rw [HE.out]; rintro e w1 ⟨rfl, hb1⟩; have HB1 := Lib.hid (HB0.out.later hb1); have y0 := HB1.out.box.c0; have y1 := HB1.out.box.c1; clear hb1)
    | (go_at_call 50; refine (containsArc_none hlen HWT.out (HB1.out.box.arcsHere HL.out)).mono ?_; rintro e w2 ⟨rfl, hb2⟩; clear y0 y1; have HB2 := Lib.hid (HB1.out.later hb2); have y0 := HB2.out.box.c0; have y1 := HB2.out.box.c1; clear hb2)
    | (go_at_call 52; refine (begun_any N s hs hN _).mono ?_; rintro e w3 ⟨gf, gb, rfl, hf, hg, hne, hb3⟩; clear y0 y1; have HB3 := Lib.hid (HB2.out.later hb3); have HB3a := Lib.hid (HB3.out.later ((Below.refl w3.heap.size w3).alloc (Nat.le_refl _) (.cells #[.slice (some ⟨gf, 0, none⟩) N N, .slice (some ⟨gb, 0, none⟩) N N] 84))); have y0 := HB3a.out.box.c0; have y1 := HB3a.out.box.c1; have HF3 := Lib.hid hf; have HG3 := Lib.hid hg; have HNE := Lib.hid hne; clear hb3 hf hg hne)
    | (go_at_call 53; refine (looker_any N hN hlen HOK.out a cap _ _ _ (HB3a.out.box.arcsHere HL.out)).mono ?_; rintro e w5 ⟨tb, g, co, L, V, rfl, hL, htb⟩; clear y0 y1; have HB5 := Lib.hid (HB3a.out.later (hL.box.below)); have y0 := HB5.out.box.c0; obtain ⟨hNW, hNP⟩ := near_begin HB3.out HL.out HF3.out HG3.out HNE.out (by have := (Array.getElem?_eq_some_iff.1 HB2.out.res).1; omega) hL htb; have HNW := Lib.hid hNW; have HNP := Lib.hid hNP; have nc := hNW.nc; clear hL htb hNW hNP)
    | (go_at_call 54; refine (new_any _).mono ?_; rintro e w6 ⟨rfl, rfl⟩))
  obtain ⟨w8, hw8⟩ : ∃ w8, (((w5.alloc (.cells (madeCells #[.bool false] N) 4)).alloc (.cells #[.slice none 0 0] 116)).alloc (.cells #[.pointer (some ⟨w5.heap.size + 1, 0, none⟩)] 101)) = w8 := ⟨_, rfl⟩
  obtain ⟨b, hb⟩ : ∃ b, w5.heap.size + 1 = b := ⟨_, rfl⟩
  obtain ⟨nx, hnx⟩ : ∃ nx, b + 1 = nx := ⟨_, rfl⟩
  obtain ⟨K, hK⟩ : ∃ K, w5.heap.size = K := ⟨_, rfl⟩
  obtain ⟨tn, htn⟩ : ∃ tn, w3.heap.size = tn := ⟨_, rfl⟩
  rw [hw8, hb, hnx] at HNW HNP nc
  rw [hK] at HNW HNP
  rw [htn] at HNW
  rw [hw8, hb, hnx, hK, htn]
  have HS0 := Lib.hid (SrchH.begin_ (l := l) hs)
  clear hw8 hb hnx hK htn y0 HB0 HB1 HB2 HB3a HF3 HG3 HNE HB5 HB3 hmk
  have HLE := Lib.hid (leftD_first (N := N) (l := l))
  have HLL := Lib.hid HL.out.1
  go_wp2_with (first
    | (go_at_call 55; refine (put_have (0, (s : Int)) HNW.out.pile (by simp)).mono ?_; rintro e w9 ⟨rfl, v9, hP, hT⟩; have HNW9 := Lib.hid (HNW.out.piled hP hT); have HNP9 := Lib.hid (HNP.out.piled hT); have nc9 := HNW9.out.nc; clear nc hP hT)
    | (go_at_call 56; refine (takeK_any HNW9.out.pile (by simp)).mono ?_; rintro e w10 ⟨ok, x, p, v10, rfl, ht, hP, hT⟩; have HT := Lib.hid ht; have HNWT := Lib.hid (HNW9.out.piled hP hT); have HNPT := Lib.hid (HNP9.out.piled hT); clear nc9 ht hP hT))
  have HXT := Lib.hid (BxN.new HNPT.out (fun k hk => (HNWT.out.pile.own k hk).2) x)
  have HW0 := Lib.hid (HNWT.out.later ((Below.refl _ _).alloc (Nat.le_refl _) (.cells #[.int .i64 x.1, .int .i64 x.2] 105)))
  have HP0 := Lib.hid (HNPT.out.later ((Below.refl _ _).alloc (Nat.le_refl _) (.cells #[.int .i64 x.1, .int .i64 x.2] 105)))
  have HH0 := Lib.hid (headN_of (gn := 20002) HT.out HS0.out (by have := HLE.out; have := HLL.out; simp; omega) (Nat.le_refl _))
  have HW0' : Hid (NearW w (w10.alloc (.cells #[.int .i64 x.1, .int .i64 x.2] 105)) K co g tb tn nx gf N gb N L b N a len cap V l (valI (fun i => if i = s then some 0 else none)) (fun _ => -1) v10 p) := HW0
  clear HT HNWT HNPT HNW HNP HNW9 HNP9 HS0 HW0 HLE HLL hs1 hs2
  go_loopg [11, 12] 20002 (fun gn xp okv wr => ∃ (far : Nat → Option Int) (by_ : Nat → Int) (dn : Nat → Bool) (x : It) (p : List It) (v : Value) (bx : Nat) (ok : Bool), xp = .pointer (some ⟨bx, 0, none⟩) ∧ okv = .bool ok ∧ Hid (NearW w wr K co g tb tn nx gf N gb N L b N a len cap V l (valI far) by_ v p) ∧ Hid (NearP w wr K K (w.heap.size + 1) N b nx gf gb dn v) ∧ Hid (BxN wr nx v bx x) ∧ Hid (HeadN l s N far dn x p ok gn))
  case atStart => exact ⟨_, _, _, x, p, v10, _, ok, rfl, rfl, HW0', HP0, HXT, HH0⟩
  case round =>
    clear HXT HW0' HP0 HH0
    obtain ⟨far, by_, dn, x, p, v, bx, ok, rfl, rfl, HW, HP, HX, HH⟩ := hrel
    cases ok with
    | false =>
      have HD : Hid (SrchH l s N far dn []) := Lib.hid (by
        rcases HH.out with ⟨e, _⟩ | ⟨_, e, _⟩
        · cases e
        · exact e)
      have q0 := HW.out.n0
      have q1 := HW.out.n1
      have HRES := Lib.hid HP.out.res
      have r0 : wr.cell? ⟨w.heap.size + 1, 0, none⟩ = some (.slice none 0 0) := (by simp [World.cell?, HRES.out])
      have r1 : wr.cell? ⟨w.heap.size + 1, 1, none⟩ = some (.slice none 0 0) := (by simp [World.cell?, HRES.out])
      have r2 : ∀ k, wr.frozen? ⟨w.heap.size + 1, k, none⟩ = false := (fun k => by simp [World.frozen?, HRES.out])
      clear HH
      go_wp2_with fail
      have hm : Mod (fun k => k = w.heap.size + 1) wr ((wr.setCell ⟨w.heap.size + 1, 0, none⟩ (.slice (some ⟨gf, 0, none⟩) N N)).setCell ⟨w.heap.size + 1, 1, none⟩ (.slice (some ⟨gb, 0, none⟩) N N)) := ((Mod.refl (fun k => k = w.heap.size + 1) wr).setCell (p := ⟨w.heap.size + 1, 0, none⟩) (.inr rfl) _).setCell (p := ⟨w.heap.size + 1, 1, none⟩) (.inr rfl) _
      have h2 := HP.out.r2
      have h3 := HP.out.r3
      obtain ⟨_, g0, g1⟩ := tree_stored HRES.out (.slice (some ⟨gf, 0, none⟩) N N) (.slice (some ⟨gb, 0, none⟩) N N)
      refine bodyPost_ret (v := .tuple #[.agg #[.slice (some ⟨gf, 0, none⟩) N N, .slice (some ⟨gb, 0, none⟩) N N], .int .i64 0]) ?_ rfl ⟨((Mod.of_below (fun k => k = w.heap.size + 1) HW.out.pile.below).trans hm).below (Nat.le_refl _) (fun k (e : k = w.heap.size + 1) => by omega), gf, N, _, far, dn, by_, rfl, HW.out.far.kept hm (fun k hk (e : k = w.heap.size + 1) => ?_), HW.out.by_.kept hm (fun k hk (e : k = w.heap.size + 1) => ?_), HD.out⟩
      · simp [results, Try.results39, go_sem, g0, g1]
      · have e2 : gf = k := Option.some.inj hk
        omega
      · have e2 : gb = k := Option.some.inj hk
        omega
    | true =>
      obtain ⟨hsz, hgn, hS, hmin⟩ : ((p.length : Int) + 1 + leftD N l dn < gk) ∧ gk ≤ 20002 ∧ SrchH l s N far dn (x :: p) ∧ ∀ y ∈ p, x.1 ≤ y.1 := by
        rcases HH.out with ⟨_, e⟩ | ⟨e, _⟩
        · exact e
        · cases e
      have hph := leftD_nonneg (N := N) (l := l) (dn := dn)
      obtain ⟨u, du, hu2, huN, _, _⟩ := hS.base.items x (by simp)
      obtain ⟨κ, xi⟩ := x
      simp only at hu2 hmin
      subst hu2
      have HS := Lib.hid hS
      have HMIN := Lib.hid hmin
      obtain ⟨c0, c1⟩ := HX.out.cells
      simp only at c0 c1
      have r0 := HP.out.dr.cell huN
      have f1 := HP.out.dr.frozen u
      have hu1 : (0 : Int) ≤ (u : Int) := by omega
      have hu3 : (u : Int) < (N : Int) := by omega
      clear HH hS hmin
      cases hd : dn u with
      | true =>
        rw [hd] at r0
        have HD := Lib.hid (HS.out.skip rfl hd)
        clear hd
        have HXN := Lib.hid (BxN.new HP.out (fun k hk => (HW.out.pile.own k hk).2) (κ, (u : Int)))
        have HWN := Lib.hid (HW.out.later ((Below.refl _ _).alloc (Nat.le_refl _) (.cells #[.int .i64 κ, .int .i64 (u : Int)] 105)))
        have HPN := Lib.hid (HP.out.later ((Below.refl _ _).alloc (Nat.le_refl _) (.cells #[.int .i64 κ, .int .i64 (u : Int)] 105)))
        have nc := HWN.out.nc
        have HSQ := Lib.hid (show p.length ≤ 50000 from by omega)
        go_wp2_with (go_at_call 56; refine (takeK_any HWN.out.pile HSQ.out).mono ?_; rintro e w8 ⟨ok, y, q, v8, rfl, ht, hP, hT⟩; have HT := Lib.hid ht; have HW8 := Lib.hid (HWN.out.piled hP hT); have HP8 := Lib.hid (HPN.out.piled hT); have HX8 := Lib.hid (HXN.out.piled HPN.out hT); obtain ⟨y0, y1⟩ := HX8.out.cells; simp only at y0 y1; have y2 := HX8.out.frozen 0; have y3 := HX8.out.frozen 1; clear nc ht hP hT)
        go_roundg (gk - 1)
        case measure => omega
        case rel => exact ⟨_, _, _, y, q, v8, _, ok, rfl, rfl, Lib.hid (HW8.out.put_ HX8.out y), Lib.hid (HP8.out.put_ HX8.out y), Lib.hid (HX8.out.put_ y), Lib.hid (headN_of HT.out HD.out (by omega) (by omega))⟩
      | false =>
        rw [hd] at r0
        obtain ⟨_, hI⟩ := HS.out.take_ HMIN.out rfl hd
        have HI := Lib.hid hI
        have hlm := leftD_mark (l := l) huN hd
        clear hd hI
        have HWM := Lib.hid (HW.out.mark HP.out u)
        have HPM := Lib.hid (HP.out.mark u)
        have HXM := Lib.hid (HX.out.mark HP.out u)
        obtain ⟨d0, d1⟩ := HXM.out.cells
        simp only at d0 d1
        obtain ⟨lm, hlm2⟩ : ∃ z, leftD N l (markN dn u) = z := ⟨_, rfl⟩
        have HLM := Lib.hid hlm2
        have hlm3 := leftD_nonneg (N := N) (l := l) (dn := markN dn u)
        rw [hlm2] at hlm hlm3
        obtain ⟨dg, hdg⟩ : ∃ z, (outK l u).length = z := ⟨_, rfl⟩
        have HDG := Lib.hid hdg
        rw [hdg] at hlm
        have HQL : Hid (p.length + (outK l u).length ≤ 50000) := Lib.hid (by omega)
        have HLM2 := Lib.hid hlm
        clear hlm2 hdg hlm
        go_wp2_with (first
          | (go_at_call 63; refine (nearLook_any hN hlen HOK.out HWT.out huN HQL.out _ HWM.out HI.out).mono ?_; rintro e w6 ⟨rfl, far2, by2, v2, Q2, hW6, hS6, hq6, hM6, hF6⟩; have HW6 := Lib.hid hW6; have HP6 := Lib.hid (HPM.out.look hM6 hF6); have HX6 := Lib.hid (HXM.out.look HPM.out hM6 hF6); have HS6 := Lib.hid (hS6.done (Nat.le_refl _)); have HQ6 := Lib.hid hq6; obtain ⟨e0, e1⟩ := HX6.out.cells; simp only at e0 e1; have HXN := Lib.hid (BxN.new HP6.out (fun k hk => (HW6.out.pile.own k hk).2) (κ, (u : Int))); have HWN := Lib.hid (HW6.out.later ((Below.refl _ _).alloc (Nat.le_refl _) (.cells #[.int .i64 κ, .int .i64 (u : Int)] 105))); have HPN := Lib.hid (HP6.out.later ((Below.refl _ _).alloc (Nat.le_refl _) (.cells #[.int .i64 κ, .int .i64 (u : Int)] 105))); have nc := HWN.out.nc; have HSQ : Hid (Q2.length ≤ 50000) := Lib.hid (by have := HQL.out; have := HQ6.out; omega); clear c0 c1 d0 d1 r0 hW6 hS6 hq6 hM6 hF6)
          | (go_at_call 56; refine (takeK_any HWN.out.pile HSQ.out).mono ?_; rintro e w8 ⟨ok, y, q, v8, rfl, ht, hP, hT⟩; have HT := Lib.hid ht; have HW8 := Lib.hid (HWN.out.piled hP hT); have HP8 := Lib.hid (HPN.out.piled hT); have HX8 := Lib.hid (HXN.out.piled HPN.out hT); obtain ⟨y0, y1⟩ := HX8.out.cells; simp only at y0 y1; have y2 := HX8.out.frozen 0; have y3 := HX8.out.frozen 1; clear nc ht hP hT))
        go_roundg (gk - 1)
        case measure => omega
        case rel => exact ⟨_, _, _, y, q, v8, _, ok, rfl, rfl, Lib.hid (HW8.out.put_ HX8.out y), Lib.hid (HP8.out.put_ HX8.out y), Lib.hid (HX8.out.put_ y), Lib.hid (headN_of HT.out HS6.out (by have h1 := HLM.out; have h2 := HLM2.out; have h3 := HDG.out; have h4 := HQ6.out; omega) (by omega))⟩
end Go.Proofs.Ytchdpapaojkbhaa
end
