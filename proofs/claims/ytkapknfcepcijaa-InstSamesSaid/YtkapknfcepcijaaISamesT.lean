/- What the law on Same has: its arguments, boxed; two instances that it made. -/
import Derived.Test.YtkapknfcepcijaaISetB
import Derived.Test.YtkapknfcepcijaaISame
namespace Go.Proofs.Ytkapknfcepcijaa
open Go.RowKit

variable {w wr w2 : World} {A1 A2 A3 : InA} {x y m : Ins} {A : SmA} {s : Sm} {D0 ga b B N C D : Nat} {u : Value} {VK VT : Nat → Nat} {LK LT : Nat → Nat → Int} {S P Q : Nat → Prop}
/-- The three arguments' boxes. -/
structure Three (w wr : World) (A1 : InA) (x : Ins) (A2 : InA) (y : Ins) (A : SmA) (s : Sm) : Prop where
  two : Two w wr A1 x A2 y
  blk : wr.heap[w.heap.size + 2]? = some (.cells (smC A s) 38 (0, 0))
theorem Three.make (w : World) (A1 : InA) (x : Ins) (A2 : InA) (y : Ins) (A : SmA) (s : Sm) : Three w (((w.alloc (.cells (insC A1 x) 28)).alloc (.cells (insC A2 y) 28)).alloc (.cells (smC A s) 38)) A1 x A2 y A s := by
  have e : ((w.alloc (.cells (insC A1 x) 28)).alloc (.cells (insC A2 y) 28)).heap.size = w.heap.size + 2 := by simp
  exact ⟨(Two.make w A1 x A2 y).later (below1 _ _), by rw [← e]; exact heap_alloc_new _ _⟩
theorem Three.later (h : Three w wr A1 x A2 y A s) (hb : Below wr.heap.size wr w2) : Three w w2 A1 x A2 y A s := ⟨h.two.later hb, (hb.block _ (Array.getElem?_eq_some_iff.1 h.blk).1).trans h.blk⟩
theorem Three.below (h : Three w wr A1 x A2 y A s) : Below w.heap.size w wr := h.two.one.below
theorem Three.lt (h : Three w wr A1 x A2 y A s) : w.heap.size + 3 ≤ wr.heap.size := (Array.getElem?_eq_some_iff.1 h.blk).1
theorem Three.here (h : Three w wr A1 x A2 y A s) (hs : IsSm w.heap.size w A s) : IsSm wr.heap.size wr A s := (hs.later h.below).mono h.below.size
theorem Three.smallc (h : Three w wr A1 x A2 y A s) : wr.cell? ⟨w.heap.size + 2, 0, none⟩ = some (.int .u8 s.e) ∧ wr.cell? ⟨w.heap.size + 2, 1, none⟩ = some (.int .u8 s.t) ∧ wr.cell? ⟨w.heap.size + 2, 2, none⟩ = some (.int .u8 s.tr) ∧ wr.cell? ⟨w.heap.size + 2, 3, none⟩ = some (.int .u8 s.b) ∧ wr.cell? ⟨w.heap.size + 2, 4, none⟩ = some (.int .u8 s.br) ∧ wr.cell? ⟨w.heap.size + 2, 5, none⟩ = some (.slice A.sa s.sats.length A.sc) ∧ wr.cell? ⟨w.heap.size + 2, 6, none⟩ = some (.slice A.wa s.whos.length A.wc) ∧ wr.cell? ⟨w.heap.size + 2, 7, none⟩ = some (.slice A.ca A.cn A.cc) ∧ wr.cell? ⟨w.heap.size + 2, 8, none⟩ = some (.slice A.ta A.tn A.tc) ∧ wr.cell? ⟨w.heap.size + 2, 9, none⟩ = some (.bool s.tight) ∧ wr.cell? ⟨w.heap.size + 2, 10, none⟩ = some (.bool s.loose) := by
  simp [World.cell?, h.blk]
theorem Three.mod (h : Three w wr A1 x A2 y A s) (hb : Below (w.heap.size + 3) wr w2) : Three w w2 A1 x A2 y A s :=
  ⟨⟨⟨h.two.one.below.trans (hb.mono (by omega)), h.two.one.ge, (hb.block _ (by omega)).trans h.two.one.blk⟩, ⟨h.two.two.below.trans (hb.mono (by omega)), h.two.two.ge, (hb.block _ (by omega)).trans h.two.two.blk⟩⟩, (hb.block _ (by omega)).trans h.blk⟩
/-- Each block of an instance of the call's own. -/
def OwnAll (A : InA) (x : Ins) (N : Nat) (VK VT : Nat → Nat) (P : Nat → Prop) : Prop :=
  (∀ g, (Value.slice A.sa x.sats.length A.sc).ownBlock = some g → P g) ∧ (∀ g, (Value.slice A.ca x.cus.length A.cc).ownBlock = some g → P g) ∧ (∀ g, (Value.slice A.ka N A.kc).ownBlock = some g → P g) ∧ (∀ g, (Value.slice A.ta N A.tc).ownBlock = some g → P g) ∧ (∀ i, i < N → P (VK i)) ∧ ∀ i, i < N → P (VT i)
theorem OwnAll.imp (h : OwnAll A3 m N VK VT P) (hp : ∀ g, P g → Q g) : OwnAll A3 m N VK VT Q :=
  ⟨fun g e => hp _ (h.1 g e), fun g e => hp _ (h.2.1 g e), fun g e => hp _ (h.2.2.1 g e), fun g e => hp _ (h.2.2.2.1 g e), fun i hi => hp _ (h.2.2.2.2.1 i hi), fun i hi => hp _ (h.2.2.2.2.2 i hi)⟩
theorem OwnIns.all_lt (h : OwnIns B w A3 m N C D VK VT LK LT) : OwnAll A3 m N VK VT (fun g => g < w.heap.size) :=
  ⟨fun g e => (World.ownsRow.lt h.sats g e).2, fun g e => (World.ownsRow.lt h.cus g e).2, fun g e => (World.ownsRow.lt h.cost.outer g e).2, fun g e => (World.ownsRow.lt h.time.outer g e).2, fun i hi => (h.cost.row i hi).1.lt, fun i hi => (h.time.row i hi).1.lt⟩
theorem OwnIns.mod (h : OwnIns B w A3 m N C D VK VT LK LT) (hm : Mod S w w2) (hP : OwnAll A3 m N VK VT (fun g => ¬ S g)) : OwnIns B w2 A3 m N C D VK VT LK LT :=
  ⟨owns_kept h.sats hm hP.1, owns_kept h.cus hm hP.2.1, h.cost.mod hm hP.2.2.1 hP.2.2.2.2.1, h.time.mod hm hP.2.2.2.1 hP.2.2.2.2.2, h.ck, h.tk, h.nl, h.ap, h.sb, h.kb, h.bc, h.cd⟩
/-- An instance of the call's own, all its blocks below D0. -/
def AOwn (w : World) (D0 : Nat) (A : InA) (x : Ins) : Prop := ∃ B N C D VK VT LK LT, OwnIns B w A x N C D VK VT LK LT ∧ OwnAll A x N VK VT (fun g => g < D0)
theorem AOwn.make (h : OwnIns B w A3 m N C D VK VT LK LT) : AOwn w w.heap.size A3 m := ⟨B, N, C, D, VK, VT, LK, LT, h, h.all_lt⟩
theorem AOwn.later (h : AOwn w D0 A3 m) (hb : Below w.heap.size w w2) : AOwn w2 D0 A3 m := by
  obtain ⟨B, N, C, D, VK, VT, LK, LT, h1, h2⟩ := h
  exact ⟨B, N, C, D, VK, VT, LK, LT, h1.later hb, h2⟩
theorem AOwn.mod (h : AOwn w D0 A3 m) (hm : Mod S w w2) (hS : ∀ k, S k → D0 ≤ k) : AOwn w2 D0 A3 m := by
  obtain ⟨B, N, C, D, VK, VT, LK, LT, h1, h2⟩ := h
  exact ⟨B, N, C, D, VK, VT, LK, LT, h1.mod hm (h2.imp (fun g hg hs => by have := hS g hs; omega)), h2⟩
theorem AOwn.box (h : AOwn w D0 A3 m) {cb : Array Value} (hb : w.heap[b]? = some (.cells cb 28 (0, 0))) (i : Nat) (u : Value) : AOwn (w.setCell ⟨b, i, none⟩ u) D0 A3 m := by
  obtain ⟨B, N, C, D, VK, VT, LK, LT, h1, h2⟩ := h
  exact ⟨B, N, C, D, VK, VT, LK, LT, h1.keep hb (by decide) (by decide) (by decide) (by decide) i u, h2⟩
theorem AOwn.is_ (h : AOwn w D0 A3 m) : IsIns w.heap.size w A3 m := by
  obtain ⟨B, N, C, D, VK, VT, LK, LT, h1, _⟩ := h
  exact h1.is_
/-- The arguments' boxes, and the instance a. -/
structure AW (w wr : World) (D0 ga : Nat) (A1 : InA) (x : Ins) (A2 : InA) (y : Ins) (A : SmA) (s : Sm) (A3 : InA) (m : Ins) : Prop where
  three : Three w wr A1 x A2 y A s
  a : wr.heap[ga]? = some (.cells (insC A3 m) 28 (0, 0))
  ao : AOwn wr D0 A3 m
  ge : w.heap.size + 3 ≤ ga
  dge : w.heap.size + 3 ≤ D0
theorem AW.later (h : AW w wr D0 ga A1 x A2 y A s A3 m) (hb : Below wr.heap.size wr w2) : AW w w2 D0 ga A1 x A2 y A s A3 m :=
  ⟨h.three.later hb, (hb.block _ (Array.getElem?_eq_some_iff.1 h.a).1).trans h.a, h.ao.later hb, h.ge, h.dge⟩
theorem AW.mod (h : AW w wr D0 ga A1 x A2 y A s A3 m) (hm : Mod S wr w2) (hS : ∀ k, S k → D0 ≤ k) (hg : ¬ S ga) : AW w w2 D0 ga A1 x A2 y A s A3 m :=
  ⟨h.three.mod (hm.below h.three.lt (fun k hk => Nat.le_trans h.dge (hS k hk))), (hm.block _ (Array.getElem?_eq_some_iff.1 h.a).1 hg).trans h.a, h.ao.mod hm hS, h.ge, h.dge⟩
theorem AW.set_ (h : AW w wr D0 ga A1 x A2 y A s A3 m) (hb : D0 ≤ b) (hne : ga ≠ b) (i : Nat) (u : Value) : AW w (wr.setCell ⟨b, i, none⟩ u) D0 ga A1 x A2 y A s A3 m :=
  h.mod ((Mod.refl (fun k => k = b) wr).setCell (p := ⟨b, i, none⟩) (.inr rfl) u) (fun k e => by rw [e]; exact hb) (fun e => hne e)
theorem AW.box (h : AW w wr D0 ga A1 x A2 y A s A3 m) {cb : Array Value} (hb : wr.heap[b]? = some (.cells cb 28 (0, 0))) (hge : w.heap.size + 3 ≤ b) (hne : ga ≠ b) (i : Nat) (u : Value) : AW w (wr.setCell ⟨b, i, none⟩ u) D0 ga A1 x A2 y A s A3 m :=
  ⟨h.three.mod ((Below.refl _ wr).setCell (p := ⟨b, i, none⟩) hge u), (heap_setCell_other _ _ _ _ (fun e => hne (show ga = b from e))).trans h.a, h.ao.box hb i u, h.ge, h.dge⟩
/-! ### The two instances made, in whatever order -/
abbrev Zc : Array Value := #[.int .i64 0, .int .i64 0, .int .i64 0, .int .i64 0, .int .i64 0, .slice none 0 0, .slice none 0 0, .slice none 0 0, .slice none 0 0]
theorem below_storeI {r : Nat} {y0 y1 y2 y3 y4 y5 y6 y7 y8 : Value} (hr : B ≤ r) : Below B wr (storeI wr r y0 y1 y2 y3 y4 y5 y6 y7 y8) := storeI_below (Below.refl _ _) hr
theorem OwnIns.storeI_ {r : Nat} {y0 y1 y2 y3 y4 y5 y6 y7 y8 v0 v1 v2 v3 v4 v5 v6 v7 v8 : Value} (h : OwnIns B w A3 m N C D VK VT LK LT) (hb : w.heap[r]? = some (.cells #[v0, v1, v2, v3, v4, v5, v6, v7, v8] 28 (0, 0))) : OwnIns B (storeI w r y0 y1 y2 y3 y4 y5 y6 y7 y8) A3 m N C D VK VT LK LT := by
  unfold storeI
  have k : ∀ {W : World} {c : Array Value}, W.heap[r]? = some (.cells c 28 (0, 0)) → OwnIns B W A3 m N C D VK VT LK LT → ∀ i u, OwnIns B (W.setCell ⟨r, i, none⟩ u) A3 m N C D VK VT LK LT ∧ ∃ c2, (W.setCell ⟨r, i, none⟩ u).heap[r]? = some (.cells c2 28 (0, 0)) := fun hc ho i u => ⟨ho.keep hc (by decide) (by decide) (by decide) (by decide) i u, _, heap_setCell_same _ _ _ _ _ _ hc⟩
  obtain ⟨h0, _, b0⟩ := k hb h 0 y0
  obtain ⟨h1, _, b1⟩ := k b0 h0 1 y1
  obtain ⟨h2, _, b2⟩ := k b1 h1 2 y2
  obtain ⟨h3, _, b3⟩ := k b2 h2 3 y3
  obtain ⟨h4, _, b4⟩ := k b3 h3 4 y4
  obtain ⟨h5, _, b5⟩ := k b4 h4 5 y5
  obtain ⟨h6, _, b6⟩ := k b5 h5 6 y6
  obtain ⟨h7, _, b7⟩ := k b6 h6 7 y7
  exact (k b7 h7 8 y8).1
theorem storeI_other {r b : Nat} {y0 y1 y2 y3 y4 y5 y6 y7 y8 : Value} (h : b ≠ r) : (storeI w r y0 y1 y2 y3 y4 y5 y6 y7 y8).heap[b]? = w.heap[b]? := by
  unfold storeI
  have k : ∀ (W : World) i u, (W.setCell ⟨r, i, none⟩ u).heap[b]? = W.heap[b]? := fun W i u => heap_setCell_other _ _ _ _ (fun e => h (show b = r from e))
  rw [k, k, k, k, k, k, k, k, k]
theorem AOwn.storeI_ {r : Nat} {y0 y1 y2 y3 y4 y5 y6 y7 y8 v0 v1 v2 v3 v4 v5 v6 v7 v8 : Value} (h : AOwn w D0 A3 m) (hb : w.heap[r]? = some (.cells #[v0, v1, v2, v3, v4, v5, v6, v7, v8] 28 (0, 0))) : AOwn (storeI w r y0 y1 y2 y3 y4 y5 y6 y7 y8) D0 A3 m := by
  obtain ⟨B, N, C, D, VK, VT, LK, LT, h1, h2⟩ := h
  exact ⟨B, N, C, D, VK, VT, LK, LT, h1.storeI_ hb, h2⟩
/-! ### A clone as what came in -/
theorem own_nums {a : Option Addr} {c n : Nat} {r : List Int} {T : TypeId} (h : w.ownsRow B T 1 (.slice a n c) n (numsV r)) (hn : r.length = n) : IsNums w.heap.size w a n r := by
  refine ⟨hn, ?_⟩
  by_cases h0 : n = 0
  · exact .inl h0
  · obtain ⟨g, cap, e, _, h2, _⟩ := owns_some h (by omega)
    injection e with e1 _ _
    subst e1
    exact .inr ⟨g, 0, rfl, h2, fun j z hj => by rw [Nat.zero_add]; exact nums_cell h hj⟩
theorem RowsOwn.is_ {a : Option Addr} {c : Nat} {L : List (List Int)} (h : RowsOwn w B (.slice a L.length c) L) (hl : ∀ (i : Nat) (r : List Int), L[i]? = some r → r.length ≤ 1000) : IsRows w.heap.size w a L.length L := by
  obtain ⟨V, h1, h2⟩ := h
  refine ⟨rfl, ?_⟩
  by_cases h0 : L.length = 0
  · exact .inl h0
  · obtain ⟨g, cap, e, _, h3, _⟩ := owns_some h1 (by omega)
    injection e with e1 _ e3
    subst e1
    refine .inr ⟨g, 0, rfl, h3, fun k r hk => ?_⟩
    have hkl := (List.getElem?_eq_some_iff.1 hk).1
    have hrow := h2 k r hk
    obtain ⟨ra, rc, e2⟩ := owns_shape hrow
    rw [e2] at hrow
    have hlr := hl k r hk
    refine ⟨by omega, ra, rc, ?_, own_nums hrow rfl⟩
    rw [Nat.zero_add, World.ownsRow.cellAt h1 k (by omega)]
    simp [hkl, e2]
theorem CloOf.is_ {A5 : InA} (h : CloOf w B A5 x) (hl : x.light = true) : IsIns w.heap.size w A5 x := by
  obtain ⟨_, _, _, _, l5, l6⟩ := light_parts hl
  exact ⟨owns_sats h.sats rfl, owns_cus h.cus rfl, h.cost.is_ (fun i r hr => Nat.le_trans (l5 i r hr) (by omega)), h.time.is_ (fun i r hr => Nat.le_trans (l6 i r hr) (by omega))⟩
end Go.Proofs.Ytkapknfcepcijaa
