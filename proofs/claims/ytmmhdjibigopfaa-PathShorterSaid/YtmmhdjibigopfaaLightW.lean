/- Package path: what lightest has in memory. -/
import Derived.Test.YtmmhdjibigopfaaLook
import Derived.Test.YtmmhdjibigopfaaLooker
namespace Go.Proofs.Ytmmhdjibigopfaa
open Go.RowKit

variable {w wr w1 w2 : World} {a : Option Addr} {len cap B co g tb gf cf gb cb cl L N i j k t s R g0 rs tc gc cc : Nat} {l : List Ar} {V : Nat → Value} {f f2 by_ by2 : Nat → Int} {late late2 d u p c : Int}
/-- The graph's box, the result's, the tree's variable; what looker's closure has. -/
structure LtW (w wr : World) (g0 rs tc co g tb gf cf gb cb cl L N : Nat) (a : Option Addr) (len cap : Nat) (V : Nat → Value) (l : List Ar) (f by_ : Nat → Int) (late : Int) : Prop where
  box : Box w wr g0 (N : Int) a len cap
  res : wr.heap[rs]? = some (.cells #[.slice none 0 0, .slice none 0 0] 31 (0, 0))
  tv : wr.heap[tc]? = some (.cells #[.slice (some ⟨gf, 0, none⟩) N cf, .slice (some ⟨gb, 0, none⟩) N cb] 31 (0, 0))
  look : LookW w.heap.size wr co g tb gf cf gb cb cl L N a len cap V l f by_ late
  p1 : g0 < rs
  p2 : rs < gf
  p3 : rs < gb
  p4 : gf < tc
  p5 : gb < tc
  p6 : tc < tb
theorem LtW.later (h : LtW w wr g0 rs tc co g tb gf cf gb cb cl L N a len cap V l f by_ late) (hb : Below wr.heap.size wr w2) : LtW w w2 g0 rs tc co g tb gf cf gb cb cl L N a len cap V l f by_ late :=
  ⟨h.box.later hb, (hb.block rs (Array.getElem?_eq_some_iff.1 h.res).1).trans h.res, (hb.block tc (Array.getElem?_eq_some_iff.1 h.tv).1).trans h.tv, h.look.later hb, h.p1, h.p2, h.p3, h.p4, h.p5, h.p6⟩
theorem LtW.mod (h : LtW w wr g0 rs tc co g tb gf cf gb cb cl L N a len cap V l f by_ late) (hm : Mod (LookS gf gb cl) wr w2) (h2 : LookW w.heap.size w2 co g tb gf cf gb cb cl L N a len cap V l f2 by2 late2) : LtW w w2 g0 rs tc co g tb gf cf gb cb cl L N a len cap V l f2 by2 late2 := by
  have q1 := h.p1
  have q2 := h.p2
  have q3 := h.p3
  have q4 := h.p4
  have q5 := h.p5
  have q6 := h.p6
  have o3 := h.look.o3
  have o4 := h.look.o4
  have o5 := h.look.o5
  have o6 := h.look.adj.lt
  have b1 := h.look.far.base_
  have b2 := h.look.by_.base_
  have hge := h.box.ge
  have no : ∀ k, k ≤ rs ∨ k = tc → ¬ LookS gf gb cl k := fun k h1 h3 => by unfold LookS at h3; omega
  refine ⟨⟨((Mod.of_below (LookS gf gb cl) h.box.below).trans hm).below (Nat.le_refl _) (fun k hk => by unfold LookS at hk; omega), hge, (hm.block g0 h.box.lt (no g0 (by omega))).trans h.box.blk⟩,
    (hm.block rs (Array.getElem?_eq_some_iff.1 h.res).1 (no rs (by omega))).trans h.res, (hm.block tc (Array.getElem?_eq_some_iff.1 h.tv).1 (no tc (by omega))).trans h.tv, h2, q1, q2, q3, q4, q5, q6⟩
/-- The variable anew. -/
theorem LookW.lset (h : LookW B wr co g tb gf cf gb cb cl L N a len cap V l f by_ late) (v : Int) : LookW B (wr.setCell ⟨cl, 0, none⟩ (.int .i64 v)) co g tb gf cf gb cb cl L N a len cap V l f by_ v := by
  have a1 := h.o1
  have a2 := h.o2
  have a3 := h.o3
  have a4 := h.o4
  have a5 := h.o5
  have a6 := h.adj.lt
  have hm3 : Mod (fun k => k = cl) wr (wr.setCell ⟨cl, 0, none⟩ (.int .i64 v)) := (Mod.refl (fun k => k = cl) _).setCell (p := ⟨cl, 0, none⟩) (.inr rfl) _
  obtain ⟨c1, c2, c3, c4⟩ := h.frame (hm3.mono (fun _ _ q => .inr (.inr q)))
  refine ⟨c1, c2, c3, c4, h.far.kept hm3 (fun k hk (e : k = cl) => ?_), h.by_.kept hm3 (fun k hk (e : k = cl) => ?_), heap_setCell_same _ cl 0 _ _ _ h.lt, h.ne, h.o1, h.o2, h.o3, h.o4, h.o5, h.rows⟩
  · have e2 : gf = k := Option.some.inj hk; omega
  · have e2 : gb = k := Option.some.inj hk; omega
theorem LtW.lset (h : LtW w wr g0 rs tc co g tb gf cf gb cb cl L N a len cap V l f by_ late) (v : Int) : LtW w (wr.setCell ⟨cl, 0, none⟩ (.int .i64 v)) g0 rs tc co g tb gf cf gb cb cl L N a len cap V l f by_ v :=
  h.mod ((Mod.refl (LookS gf gb cl) _).setCell (p := ⟨cl, 0, none⟩) (.inr (.inr (.inr rfl))) _) (h.look.lset v)
theorem LtW.tv0 (h : LtW w wr g0 rs tc co g tb gf cf gb cb cl L N a len cap V l f by_ late) : wr.cell? ⟨tc, 0, none⟩ = some (.slice (some ⟨gf, 0, none⟩) N cf) := by simp [World.cell?, h.tv]
theorem LtW.tv1 (h : LtW w wr g0 rs tc co g tb gf cf gb cb cl L N a len cap V l f by_ late) : wr.cell? ⟨tc, 1, none⟩ = some (.slice (some ⟨gb, 0, none⟩) N cb) := by simp [World.cell?, h.tv]
theorem LtW.r0 (h : LtW w wr g0 rs tc co g tb gf cf gb cb cl L N a len cap V l f by_ late) : wr.cell? ⟨rs, 0, none⟩ = some (.slice none 0 0) := by simp [World.cell?, h.res]
theorem LtW.r1 (h : LtW w wr g0 rs tc co g tb gf cf gb cb cl L N a len cap V l f by_ late) : wr.cell? ⟨rs, 1, none⟩ = some (.slice none 0 0) := by simp [World.cell?, h.res]
theorem LtW.rf (h : LtW w wr g0 rs tc co g tb gf cf gb cb cl L N a len cap V l f by_ late) (k : Nat) : wr.frozen? ⟨rs, k, none⟩ = false := by simp [World.frozen?, h.res]
/-- Its last stores. -/
theorem LtW.done (h : LtW w wr g0 rs tc co g tb gf cf gb cb cl L N a len cap V l f by_ late) (x y : Value) :
    let W := (wr.setCell ⟨rs, 0, none⟩ x).setCell ⟨rs, 1, none⟩ y
    LongRow W w.heap.size (.slice (some ⟨gf, 0, none⟩) N cf) N f ∧ IntRow W w.heap.size (.slice (some ⟨gb, 0, none⟩) N cb) N by_ ∧ Below w.heap.size w W := by
  intro W
  have q1 := h.p1
  have q2 := h.p2
  have q3 := h.p3
  have hge := h.box.ge
  have hm2 : Mod (fun k => k = rs) wr W := ((Mod.refl (fun k => k = rs) _).setCell (p := ⟨rs, 0, none⟩) (.inr rfl) _).setCell (p := ⟨rs, 1, none⟩) (.inr rfl) _
  refine ⟨h.look.far.kept hm2 (fun k hk (e : k = rs) => ?_), h.look.by_.kept hm2 (fun k hk (e : k = rs) => ?_), ((Mod.of_below (fun k => k = rs) h.box.below).trans hm2).below (Nat.le_refl _) (fun k hk => by omega)⟩
  · have e2 : gf = k := Option.some.inj hk; omega
  · have e2 : gb = k := Option.some.inj hk; omega
theorem AdjK.rebase {B2 : Nat} {R : Nat → List Int} (h : AdjK B w co L N V R) (hB : B2 ≤ B) : AdjK B2 w co L N V R := ⟨Nat.le_trans hB h.ge, h.lt, h.out, h.var, h.row, h.apart⟩
theorem LtW.make (hb1 : Below (w.heap.size + 2) ((w.alloc (.cells #[.int .i64 (N : Int), .slice a len cap] 26)).alloc (.cells #[.slice none 0 0, .slice none 0 0] 31)) w1)
    (hf : LongRow w1 (w.heap.size + 2) (.slice (some ⟨gf, 0, none⟩) N cf) N f) (hi : IntRow w1 (w.heap.size + 2) (.slice (some ⟨gb, 0, none⟩) N cb) N by_) (hne : gf ≠ gb)
    (hk : LookerW (w1.alloc (.cells #[.slice (some ⟨gf, 0, none⟩) N cf, .slice (some ⟨gb, 0, none⟩) N cb] 31)) w2 tb g (.slice (some ⟨gf, 0, none⟩) N cf) (.slice (some ⟨gb, 0, none⟩) N cb) (N : Int) a len cap co L N V (outK l))
    (htb : (w1.alloc (.cells #[.slice (some ⟨gf, 0, none⟩) N cf, .slice (some ⟨gb, 0, none⟩) N cb] 31)).heap.size ≤ tb) (hl : IsArcs w.heap.size w a len l) (v : Int) :
    LtW w (w2.alloc (.cells #[.int .i64 v] 3)) w.heap.size (w.heap.size + 1) w1.heap.size co g tb gf cf gb cb w2.heap.size L N a len cap V l f by_ v := by
  have s1 : w.heap.size + 2 ≤ w1.heap.size := by have := hb1.size; simp at this; omega
  have b1 := hf.base_
  have b2 := hi.base_
  have htb2 : w1.heap.size + 1 ≤ tb := by simpa using htb
  have hb2 : Below (w1.heap.size + 1) (w1.alloc (.cells #[.slice (some ⟨gf, 0, none⟩) N cf, .slice (some ⟨gb, 0, none⟩) N cb] 31)) w2 := by simpa using hk.box.below
  have hb3 : Below w1.heap.size w1 (w2.alloc (.cells #[.int .i64 v] 3)) := (((Below.refl w1.heap.size w1).alloc (Nat.le_refl _) _).trans (hb2.mono (by omega))).alloc (by have := hb2.size; simp at this; omega) _
  have hb0 : Below w.heap.size w w1 := (((Below.refl _ w).alloc (Nat.le_refl _) _).alloc (by simp) _).trans (hb1.mono (by omega))
  have hbw : Below w.heap.size w (w2.alloc (.cells #[.int .i64 v] 3)) := hb0.trans (hb3.mono (by omega))
  have hba : Below w2.heap.size w2 (w2.alloc (.cells #[.int .i64 v] 3)) := (Below.refl _ _).alloc (Nat.le_refl _) _
  have hlc := hk.adj.ltc
  have hlg := hk.lt
  have hlt := hk.lt0
  refine ⟨⟨hbw, Nat.le_refl _, ?_⟩, ?_, ?_, ⟨(hk.adj.later hba).rebase (by simp; omega), ?_, ?_, hl.later hbw, (hf.below hb3).rebase (by omega), (hi.below hb3).rebase (by omega), heap_alloc_new _ _, hne, by omega, by omega, by omega, by omega, by omega, fun i hi' he => ?_⟩, by omega, by omega, by omega, by omega, by omega, by omega⟩
  · rw [hb3.block _ (by omega), hb1.block _ (by omega)]
    exact heap_alloc2_old _ _ _
  · rw [hb3.block _ (by omega), hb1.block _ (by omega)]
    exact heap_alloc2_new _ _ _
  · rw [hba.block _ (by have := hb2.size; simp at this; omega), hb2.block _ (by omega)]
    exact heap_alloc_new _ _
  · exact (hba.block g hk.box.lt).trans hk.box.blk
  · exact (hba.block tb (Array.getElem?_eq_some_iff.1 hk.tree).1).trans hk.tree
  · have := (World.ownsRow.lt (hk.adj.row i hi') _ he).2
    omega
end Go.Proofs.Ytmmhdjibigopfaa
