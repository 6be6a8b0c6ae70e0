/- The law's maker of instances: its memory. -/
import Derived.Test.YtmnbpnjakbihdaaIMakeT
namespace Go.Proofs.Ytmnbpnjakbihdaa
open Go.RowKit

variable {w wr w2 w4 : World} {A : SmA} {s : Sm} {sv cv : Value} {ns nc g4 cap : Nat} {l1 : List (Int × Int)} {l2 : List Pi} {x : Int × Int} {c : Pi}
/-- What the maker has: what came in, its result's box, its instance's box; the rows of satellites, of customers. -/
structure MkW (w wr : World) (A : SmA) (s : Sm) (sv cv : Value) (ns nc : Nat) (l1 : List (Int × Int)) (l2 : List Pi) : Prop where
  below : Below w.heap.size w wr
  sm : wr.heap[w.heap.size]? = some (.cells (smC A s) 26 (0, 0))
  res : wr.heap[w.heap.size + 1]? = some (.cells #[.int .i64 0, .int .i64 0, .int .i64 0, .int .i64 0, .int .i64 0, .slice none 0 0, .slice none 0 0, .slice none 0 0, .slice none 0 0] 37 (0, 0))
  y : wr.heap[w.heap.size + 2]? = some (.cells #[.int .i64 (40 + s.e * s.wide), .int .i64 (1 + s.t % 4), .int .i64 (5 + s.wide * (s.tr % 40)), .int .i64 (1 + s.b % 6), .int .i64 (3 + s.wide * (s.br % 20)), sv, cv, .slice none 0 0, .slice none 0 0] 37 (0, 0))
  sats : wr.ownsRow (w.heap.size + 3) 80 2 sv ns (flatS l1)
  nsl : l1.length = ns
  cus : wr.ownsRow (w.heap.size + 3) 68 4 cv nc (flatC l2)
  ncl : l2.length = nc
  ap : ∀ g, sv.ownBlock = some g → ¬ cv.ownBlock = some g
theorem MkW.lt (h : MkW w wr A s sv cv ns nc l1 l2) : w.heap.size + 2 < wr.heap.size := (Array.getElem?_eq_some_iff.1 h.y).1
theorem MkW.later (h : MkW w wr A s sv cv ns nc l1 l2) (hb : Below wr.heap.size wr w2) : MkW w w2 A s sv cv ns nc l1 l2 := by
  have hl := h.lt
  exact ⟨h.below.trans (hb.mono h.below.size), (hb.block _ (by omega)).trans h.sm, (hb.block _ (by omega)).trans h.res, (hb.block _ hl).trans h.y, owns_below h.sats hb, h.nsl, owns_below h.cus hb, h.ncl, h.ap⟩
theorem MkW.cells (h : MkW w wr A s sv cv ns nc l1 l2) : wr.cell? ⟨w.heap.size + 2, 5, none⟩ = some sv ∧ wr.cell? ⟨w.heap.size + 2, 6, none⟩ = some cv ∧ ∀ k, wr.frozen? ⟨w.heap.size + 2, k, none⟩ = false :=
  ⟨by simp [World.cell?, h.y], by simp [World.cell?, h.y], fun k => by simp [World.frozen?, h.y]⟩
theorem MkW.small (h : MkW w wr A s sv cv ns nc l1 l2) : wr.cell? ⟨w.heap.size, 5, none⟩ = some (.slice A.sa s.sats.length A.sc) ∧ wr.cell? ⟨w.heap.size, 6, none⟩ = some (.slice A.wa s.whos.length A.wc) ∧ wr.cell? ⟨w.heap.size, 7, none⟩ = some (.slice A.ca A.cn A.cc) ∧ wr.cell? ⟨w.heap.size, 8, none⟩ = some (.slice A.ta A.tn A.tc) ∧ wr.cell? ⟨w.heap.size, 9, none⟩ = some (.bool s.tight) ∧ wr.cell? ⟨w.heap.size, 10, none⟩ = some (.bool s.loose) := by
  simp [World.cell?, h.sm]
theorem nil_owned {T : TypeId} {sz B : Nat} : ∀ {w : World}, w.ownsRow B T sz (.slice none 0 0) 0 [] := ⟨by simp, .inl ⟨rfl, rfl⟩⟩
/-- One satellite more. -/
theorem MkW.pushS (h : MkW w wr A s sv cv ns nc l1 l2) (hown : w4.ownsRow (w.heap.size + 3) 80 2 (.slice (some ⟨g4, 0, none⟩) (ns + 1) cap) (ns + 1) (flatS l1 ++ encS x)) (hgrow : wr.grownBy w4 sv.ownBlock) (hfr : sv.ownBlock = some g4 ∨ g4 = wr.heap.size) :
    MkW w (w4.setCell ⟨w.heap.size + 2, 5, none⟩ (.slice (some ⟨g4, 0, none⟩) (ns + 1) cap)) A s (.slice (some ⟨g4, 0, none⟩) (ns + 1) cap) cv (ns + 1) nc (l1 ++ [x]) l2 ∧ w4.cell? ⟨w.heap.size + 2, 5, none⟩ = some sv ∧ w4.frozen? ⟨w.heap.size + 2, 5, none⟩ = false := by
  have hl := h.lt
  have hsl : ∀ k, sv.ownBlock = some k → w.heap.size + 3 ≤ k := fun k hk => (World.ownsRow.lt h.sats k hk).1
  have hM : Mod (fun k => sv.ownBlock = some k) wr w4 := (Mod.refl _ _).grown hgrow (fun k hk => .inr hk)
  have k1 : ∀ b, b < wr.heap.size → ¬ sv.ownBlock = some b → w4.heap[b]? = wr.heap[b]? := fun b hb hv => hM.block b hb hv
  have hy : w4.heap[w.heap.size + 2]? = _ := (k1 _ hl (fun e => by have := hsl _ e; omega)).trans h.y
  have hB : Below w.heap.size w w4 := h.below.trans (hM.below h.below.size (fun k hk => by have := hsl k hk; omega))
  refine ⟨⟨hB.setCell (p := ⟨w.heap.size + 2, 5, none⟩) (by simp) _, ?_, ?_, heap_setCell_same _ _ _ _ _ _ hy, ?_, by simp [h.nsl], ?_, h.ncl, fun g he hc => ?_⟩, by simp [World.cell?, hy], by simp [World.frozen?, hy]⟩
  · exact (heap_setCell_other _ _ _ _ (fun e => by have e2 : w.heap.size = w.heap.size + 2 := e; omega)).trans ((k1 _ (by omega) (fun e => by have := hsl _ e; omega)).trans h.sm)
  · exact (heap_setCell_other _ _ _ _ (fun e => by have e2 : w.heap.size + 1 = w.heap.size + 2 := e; omega)).trans ((k1 _ (by omega) (fun e => by have := hsl _ e; omega)).trans h.res)
  · rw [flatS_snoc]
    exact ownsRow_setCell_other hown (fun e => by have h9 : w.heap.size + 3 ≤ w.heap.size + 2 := (World.ownsRow.lt hown _ e).1; omega) _
  · exact ownsRow_setCell_other (owns_kept h.cus hM (fun k hk hs => h.ap k hs hk)) (fun e => by have h9 : w.heap.size + 3 ≤ w.heap.size + 2 := (World.ownsRow.lt h.cus _ e).1; omega) _
  · have e2 : g4 = g := by injection he
    subst e2
    rcases hfr with hfr | hfr
    · exact h.ap g4 hfr hc
    · have := (World.ownsRow.lt h.cus g4 hc).2
      omega
/-- One customer more. -/
theorem MkW.pushC (h : MkW w wr A s sv cv ns nc l1 l2) (hown : w4.ownsRow (w.heap.size + 3) 68 4 (.slice (some ⟨g4, 0, none⟩) (nc + 1) cap) (nc + 1) (flatC l2 ++ encP c)) (hgrow : wr.grownBy w4 cv.ownBlock) (hfr : cv.ownBlock = some g4 ∨ g4 = wr.heap.size) :
    MkW w (w4.setCell ⟨w.heap.size + 2, 6, none⟩ (.slice (some ⟨g4, 0, none⟩) (nc + 1) cap)) A s sv (.slice (some ⟨g4, 0, none⟩) (nc + 1) cap) ns (nc + 1) l1 (l2 ++ [c]) ∧ w4.cell? ⟨w.heap.size + 2, 6, none⟩ = some cv ∧ w4.frozen? ⟨w.heap.size + 2, 6, none⟩ = false := by
  have hl := h.lt
  have hsl : ∀ k, cv.ownBlock = some k → w.heap.size + 3 ≤ k := fun k hk => (World.ownsRow.lt h.cus k hk).1
  have hM : Mod (fun k => cv.ownBlock = some k) wr w4 := (Mod.refl _ _).grown hgrow (fun k hk => .inr hk)
  have k1 : ∀ b, b < wr.heap.size → ¬ cv.ownBlock = some b → w4.heap[b]? = wr.heap[b]? := fun b hb hv => hM.block b hb hv
  have hy : w4.heap[w.heap.size + 2]? = _ := (k1 _ hl (fun e => by have := hsl _ e; omega)).trans h.y
  have hB : Below w.heap.size w w4 := h.below.trans (hM.below h.below.size (fun k hk => by have := hsl k hk; omega))
  refine ⟨⟨hB.setCell (p := ⟨w.heap.size + 2, 6, none⟩) (by simp) _, ?_, ?_, heap_setCell_same _ _ _ _ _ _ hy, ?_, h.nsl, ?_, by simp [h.ncl], fun g he hc => ?_⟩, by simp [World.cell?, hy], by simp [World.frozen?, hy]⟩
  · exact (heap_setCell_other _ _ _ _ (fun e => by have e2 : w.heap.size = w.heap.size + 2 := e; omega)).trans ((k1 _ (by omega) (fun e => by have := hsl _ e; omega)).trans h.sm)
  · exact (heap_setCell_other _ _ _ _ (fun e => by have e2 : w.heap.size + 1 = w.heap.size + 2 := e; omega)).trans ((k1 _ (by omega) (fun e => by have := hsl _ e; omega)).trans h.res)
  · exact ownsRow_setCell_other (owns_kept h.sats hM (fun k hk hs => h.ap k hk hs)) (fun e => by have h9 : w.heap.size + 3 ≤ w.heap.size + 2 := (World.ownsRow.lt h.sats _ e).1; omega) _
  · rw [flatC_snoc]
    exact ownsRow_setCell_other hown (fun e => by have h9 : w.heap.size + 3 ≤ w.heap.size + 2 := (World.ownsRow.lt hown _ e).1; omega) _
  · have e2 : g4 = g := by injection hc
    subst e2
    rcases hfr with hfr | hfr
    · exact h.ap g4 he hfr
    · have := (World.ownsRow.lt h.sats g4 he).2
      omega
/-- One satellite alone. -/
theorem MkW.oneS (h : MkW w wr A s sv cv ns nc l1 l2) (x : Int × Int) : MkW w ((wr.alloc (.cells #[.int .i64 x.1, .int .i64 x.2] 80)).setCell ⟨w.heap.size + 2, 5, none⟩ (.slice (some ⟨wr.heap.size, 0, none⟩) 1 1)) A s (.slice (some ⟨wr.heap.size, 0, none⟩) 1 1) cv 1 nc [x] l2 := by
  have hl := h.lt
  have hA := h.later ((Below.refl wr.heap.size wr).alloc (Nat.le_refl _) (.cells #[.int .i64 x.1, .int .i64 x.2] 80))
  have hy := hA.y
  have hob : (Value.slice (some ⟨wr.heap.size, 0, none⟩) 1 1).ownBlock = some wr.heap.size := rfl
  have hrow : (wr.alloc (.cells #[.int .i64 x.1, .int .i64 x.2] 80)).ownsRow (w.heap.size + 3) 80 2 (.slice (some ⟨wr.heap.size, 0, none⟩) 1 1) 1 (flatS [x]) :=
    ⟨rfl, .inr ⟨wr.heap.size, 1, _, rfl, hl, heap_alloc_new _ _, Nat.le_refl _, by unfold maxLen; omega, rfl, rfl⟩⟩
  exact ⟨hA.below.setCell (p := ⟨w.heap.size + 2, 5, none⟩) (by simp) _, (heap_setCell_other _ _ _ _ (fun e => by have e2 : w.heap.size = w.heap.size + 2 := e; omega)).trans hA.sm, (heap_setCell_other _ _ _ _ (fun e => by have e2 : w.heap.size + 1 = w.heap.size + 2 := e; omega)).trans hA.res, heap_setCell_same _ _ _ _ _ _ hy,
    ownsRow_setCell_other hrow (fun e => by have h9 : w.heap.size + 3 ≤ w.heap.size + 2 := (World.ownsRow.lt hrow _ e).1; omega) _, rfl, ownsRow_setCell_other hA.cus (fun e => by have h9 : w.heap.size + 3 ≤ w.heap.size + 2 := (World.ownsRow.lt hA.cus _ e).1; omega) _, h.ncl,
    fun g he hc => by rw [hob] at he; injection he with he; subst he; have := (World.ownsRow.lt h.cus _ hc).2; omega⟩
/-- One customer alone. -/
theorem MkW.oneC (h : MkW w wr A s sv cv ns nc l1 l2) (x : Pi) : MkW w ((wr.alloc (.cells #[.int .i64 x.1, .int .i64 x.2.1, .int .i64 x.2.2.1, .int .i64 x.2.2.2] 68)).setCell ⟨w.heap.size + 2, 6, none⟩ (.slice (some ⟨wr.heap.size, 0, none⟩) 1 1)) A s sv (.slice (some ⟨wr.heap.size, 0, none⟩) 1 1) ns 1 l1 [x] := by
  have hl := h.lt
  have hA := h.later ((Below.refl wr.heap.size wr).alloc (Nat.le_refl _) (.cells #[.int .i64 x.1, .int .i64 x.2.1, .int .i64 x.2.2.1, .int .i64 x.2.2.2] 68))
  have hy := hA.y
  have hob : (Value.slice (some ⟨wr.heap.size, 0, none⟩) 1 1).ownBlock = some wr.heap.size := rfl
  have hrow : (wr.alloc (.cells #[.int .i64 x.1, .int .i64 x.2.1, .int .i64 x.2.2.1, .int .i64 x.2.2.2] 68)).ownsRow (w.heap.size + 3) 68 4 (.slice (some ⟨wr.heap.size, 0, none⟩) 1 1) 1 (flatC [x]) :=
    ⟨rfl, .inr ⟨wr.heap.size, 1, _, rfl, hl, heap_alloc_new _ _, Nat.le_refl _, by unfold maxLen; omega, rfl, rfl⟩⟩
  exact ⟨hA.below.setCell (p := ⟨w.heap.size + 2, 6, none⟩) (by simp) _, (heap_setCell_other _ _ _ _ (fun e => by have e2 : w.heap.size = w.heap.size + 2 := e; omega)).trans hA.sm, (heap_setCell_other _ _ _ _ (fun e => by have e2 : w.heap.size + 1 = w.heap.size + 2 := e; omega)).trans hA.res, heap_setCell_same _ _ _ _ _ _ hy,
    ownsRow_setCell_other hA.sats (fun e => by have h9 : w.heap.size + 3 ≤ w.heap.size + 2 := (World.ownsRow.lt hA.sats _ e).1; omega) _, h.nsl, ownsRow_setCell_other hrow (fun e => by have h9 : w.heap.size + 3 ≤ w.heap.size + 2 := (World.ownsRow.lt hrow _ e).1; omega) _, rfl,
    fun g he hc => by rw [hob] at hc; injection hc with hc; subst hc; have := (World.ownsRow.lt h.sats _ he).2; omega⟩
theorem MkW.inst (h : MkW w wr A s sv cv ns nc l1 l2) : wr.cell? ⟨w.heap.size + 2, 0, none⟩ = some (.int .i64 (40 + s.e * s.wide)) ∧ wr.cell? ⟨w.heap.size + 2, 1, none⟩ = some (.int .i64 (1 + s.t % 4)) ∧ wr.cell? ⟨w.heap.size + 2, 2, none⟩ = some (.int .i64 (5 + s.wide * (s.tr % 40))) ∧ wr.cell? ⟨w.heap.size + 2, 3, none⟩ = some (.int .i64 (1 + s.b % 6)) ∧
    wr.cell? ⟨w.heap.size + 2, 4, none⟩ = some (.int .i64 (3 + s.wide * (s.br % 20))) ∧ wr.cell? ⟨w.heap.size + 2, 5, none⟩ = some sv ∧ wr.cell? ⟨w.heap.size + 2, 6, none⟩ = some cv ∧ wr.cell? ⟨w.heap.size + 2, 7, none⟩ = some (.slice none 0 0) ∧ wr.cell? ⟨w.heap.size + 2, 8, none⟩ = some (.slice none 0 0) := by
  simp [World.cell?, h.y]
/-- An instance whose rows are all the call's own, each list's blocks apart from the others'. -/
structure OwnIns (B : Nat) (w : World) (A : InA) (x : Ins) (N C D : Nat) (VK VT : Nat → Nat) (LK LT : Nat → Nat → Int) : Prop where
  sats : w.ownsRow B 80 2 (.slice A.sa x.sats.length A.sc) x.sats.length (flatS x.sats)
  cus : w.ownsRow B 68 4 (.slice A.ca x.cus.length A.cc) x.cus.length (flatC x.cus)
  cost : OwnSq C w (.slice A.ka N A.kc) N N VK LK
  time : OwnSq D w (.slice A.ta N A.tc) N N VT LT
  ck : x.cost = (List.range N).map (fun i => (List.range N).map (LK i))
  tk : x.time = (List.range N).map (fun i => (List.range N).map (LT i))
  nl : N ≤ 1000
  ap : ∀ g, (Value.slice A.sa x.sats.length A.sc).ownBlock = some g → ¬ (Value.slice A.ca x.cus.length A.cc).ownBlock = some g
  sb : ∀ g, (Value.slice A.sa x.sats.length A.sc).ownBlock = some g ∨ (Value.slice A.ca x.cus.length A.cc).ownBlock = some g → g < C
  kb : ∀ g, (Value.slice A.ka N A.kc).ownBlock = some g ∨ (∃ i, i < N ∧ VK i = g) → g < D
  bc : B ≤ C
  cd : C ≤ D
theorem OwnIns.is_ {B N C D : Nat} {A : InA} {x : Ins} {VK VT : Nat → Nat} {LK LT : Nat → Nat → Int} (h : OwnIns B w A x N C D VK VT LK LT) : IsIns w.heap.size w A x := by
  have h1 : x.cost.length = N := by rw [h.ck]; simp
  have h2 : x.time.length = N := by rw [h.tk]; simp
  refine ⟨owns_sats h.sats rfl, owns_cus h.cus rfl, ?_, ?_⟩
  · obtain ⟨a, c, e, hr⟩ := h.cost.rows h.nl
    injection e with e1 _ e3
    subst e1
    rw [h1, h.ck]
    exact hr
  · obtain ⟨a, c, e, hr⟩ := h.time.rows h.nl
    injection e with e1 _ e3
    subst e1
    rw [h2, h.tk]
    exact hr
theorem MkW.two (h : MkW w wr A s sv cv ns nc l1 l2) (u : Value) : (∀ k, wr.frozen? ⟨w.heap.size + 2, k, none⟩ = false) ∧ (wr.setCell ⟨w.heap.size + 2, 7, none⟩ u).cell? ⟨w.heap.size + 2, 8, none⟩ = some (.slice none 0 0) ∧ ∀ k, (wr.setCell ⟨w.heap.size + 2, 7, none⟩ u).frozen? ⟨w.heap.size + 2, k, none⟩ = false := by
  have h1 := heap_setCell_same wr (w.heap.size + 2) 7 _ _ u h.y
  exact ⟨h.cells.2.2, by simp [World.cell?, h1], fun k => by simp [World.frozen?, h1]⟩
/-- All that is made, its two squares too. -/
structure MadeW (w wr : World) (A : SmA) (s : Sm) (saa : Option Addr) (sac : Nat) (caa : Option Addr) (cac : Nat) (ka : Option Addr) (kc : Nat) (ta : Option Addr) (tc : Nat) (C D : Nat) (VK VT : Nat → Nat) : Prop where
  below : Below w.heap.size w wr
  res : wr.heap[w.heap.size + 1]? = some (.cells #[.int .i64 0, .int .i64 0, .int .i64 0, .int .i64 0, .int .i64 0, .slice none 0 0, .slice none 0 0, .slice none 0 0, .slice none 0 0] 37 (0, 0))
  y : wr.heap[w.heap.size + 2]? = some (.cells (insC ⟨saa, sac, caa, cac, ka, kc, ta, tc⟩ (makeI s)) 37 (0, 0))
  own : OwnIns (w.heap.size + 3) wr ⟨saa, sac, caa, cac, ka, kc, ta, tc⟩ (makeI s) (nodesOf s) C D VK VT (sqE s.cost (nodesOf s)) (sqE s.time (nodesOf s))
theorem sqRows_len (zs : List Int) (N : Nat) : (sqRows zs N).length = N := by simp [sqRows]
theorem OwnSq.set_ {B n N b i : Nat} {v u : Value} {V : Nat → Nat} {L : Nat → Nat → Int} (h : OwnSq B wr v n N V L) (hb : b < B) : OwnSq B (wr.setCell ⟨b, i, none⟩ u) v n N V L :=
  ⟨ownsRow_setCell_other h.outer (fun e => by have h9 : B ≤ b := (World.ownsRow.lt h.outer _ e).1; omega) _, fun k hk => ⟨(h.row k hk).1.of_block (heap_setCell_other _ _ _ _ (fun e => by have e2 : V k = b := e; have := (h.row k hk).2; omega)), (h.row k hk).2⟩, h.inj, h.out⟩
/-- All is made. -/
theorem MkW.made {saa caa ka ta : Option Addr} {sac cac kc tc C D : Nat} {VK VT : Nat → Nat} {w1 w3 : World} (h : MkW w w4 A s (.slice saa (satsOf s).length sac) (.slice caa (cusOf s).length cac) (satsOf s).length (cusOf s).length (satsOf s) (cusOf s))
    (h1 : MkW w w1 A s (.slice saa (satsOf s).length sac) (.slice caa (cusOf s).length cac) (satsOf s).length (cusOf s).length (satsOf s) (cusOf s)) (hC : w1.heap.size = C) (hN : nodesOf s ≤ 1000)
    (hk3 : OwnSq C w3 (.slice ka (nodesOf s) kc) (nodesOf s) (nodesOf s) VK (sqE s.cost (nodesOf s))) (h34 : Below w3.heap.size w3 w4) (hD : w3.heap.size ≤ D) (hCD : C ≤ D)
    (ht : OwnSq D w4 (.slice ta (nodesOf s) tc) (nodesOf s) (nodesOf s) VT (sqE s.time (nodesOf s))) :
    MadeW w ((w4.setCell ⟨w.heap.size + 2, 7, none⟩ (.slice ka (nodesOf s) kc)).setCell ⟨w.heap.size + 2, 8, none⟩ (.slice ta (nodesOf s) tc)) A s saa sac caa cac ka kc ta tc C D VK VT := by
  have hl1 := h1.lt
  have hY : w.heap.size + 2 < C := by omega
  have y1 := heap_setCell_same w4 (w.heap.size + 2) 7 _ _ (.slice ka (nodesOf s) kc) h.y
  have y2 := heap_setCell_same _ (w.heap.size + 2) 8 _ _ (.slice ta (nodesOf s) tc) y1
  have hs1 : ∀ k, (Value.slice saa (satsOf s).length sac).ownBlock = some k → w.heap.size + 3 ≤ k := fun k hk => (World.ownsRow.lt h.sats k hk).1
  have hc1 : ∀ k, (Value.slice caa (cusOf s).length cac).ownBlock = some k → w.heap.size + 3 ≤ k := fun k hk => (World.ownsRow.lt h.cus k hk).1
  have o2 : ∀ {T : TypeId} {sz n : Nat} {v : Value} {xs : List Value}, w4.ownsRow (w.heap.size + 3) T sz v n xs → ((w4.setCell ⟨w.heap.size + 2, 7, none⟩ (.slice ka (nodesOf s) kc)).setCell ⟨w.heap.size + 2, 8, none⟩ (.slice ta (nodesOf s) tc)).ownsRow (w.heap.size + 3) T sz v n xs := fun {T sz n v xs} ho => by
    have hlt : ∀ k, v.ownBlock = some k → w.heap.size + 3 ≤ k := fun k hk => (World.ownsRow.lt ho k hk).1
    exact ownsRow_setCell_other (ownsRow_setCell_other ho (fun e => by have h9 : w.heap.size + 3 ≤ w.heap.size + 2 := hlt _ e; omega) _) (fun e => by have h9 : w.heap.size + 3 ≤ w.heap.size + 2 := hlt _ e; omega) _
  have e1 : (makeI s).cost.length = nodesOf s := sqRows_len _ _
  have e2 : (makeI s).time.length = nodesOf s := sqRows_len _ _
  refine ⟨(h.below.setCell (p := ⟨w.heap.size + 2, 7, none⟩) (by simp) _).setCell (p := ⟨w.heap.size + 2, 8, none⟩) (by simp) _, ?_, ?_, ?_⟩
  · exact (heap_setCell_other _ _ _ _ (fun e => by have e2 : w.heap.size + 1 = w.heap.size + 2 := e; omega)).trans ((heap_setCell_other _ _ _ _ (fun e => by have e2 : w.heap.size + 1 = w.heap.size + 2 := e; omega)).trans h.res)
  · rw [y2]
    unfold insC
    rw [e1, e2]
    rfl
  · refine ⟨o2 h.sats, o2 h.cus, ((hk3.later h34).set_ hY).set_ hY, (ht.set_ (by omega)).set_ (by omega), rfl, rfl, hN, h.ap, fun g hg => ?_, fun g hg => ?_, by omega, hCD⟩
    · rcases hg with hg | hg
      · have := (World.ownsRow.lt h1.sats g hg).2; omega
      · have := (World.ownsRow.lt h1.cus g hg).2; omega
    · rcases hg with hg | ⟨i, hi, hg⟩
      · have := (World.ownsRow.lt hk3.outer g hg).2; omega
      · have := (hk3.row i hi).1.lt; omega
theorem heldTwo (h : MkW w wr A s sv cv ns nc l1 l2) (u v : Value) : ((wr.setCell ⟨w.heap.size + 2, 7, none⟩ u).cell? ⟨w.heap.size, 7, none⟩ = some (.slice A.ca A.cn A.cc) ∧ (wr.setCell ⟨w.heap.size + 2, 7, none⟩ u).cell? ⟨w.heap.size, 8, none⟩ = some (.slice A.ta A.tn A.tc)) ∧
    (((wr.setCell ⟨w.heap.size + 2, 7, none⟩ u).setCell ⟨w.heap.size + 2, 8, none⟩ v).cell? ⟨w.heap.size, 7, none⟩ = some (.slice A.ca A.cn A.cc) ∧ ((wr.setCell ⟨w.heap.size + 2, 7, none⟩ u).setCell ⟨w.heap.size + 2, 8, none⟩ v).cell? ⟨w.heap.size, 8, none⟩ = some (.slice A.ta A.tn A.tc)) := by
  have h1 : (wr.setCell ⟨w.heap.size + 2, 7, none⟩ u).heap[w.heap.size]? = _ := (heap_setCell_other _ _ _ _ (fun e => by have e2 : w.heap.size = w.heap.size + 2 := e; omega)).trans h.sm
  have h2 : ((wr.setCell ⟨w.heap.size + 2, 7, none⟩ u).setCell ⟨w.heap.size + 2, 8, none⟩ v).heap[w.heap.size]? = _ := (heap_setCell_other _ _ _ _ (fun e => by have e2 : w.heap.size = w.heap.size + 2 := e; omega)).trans h1
  exact ⟨by simp [World.cell?, h1], by simp [World.cell?, h2]⟩
theorem OwnIns.set_ {B N C D b i : Nat} {A : InA} {x : Ins} {VK VT : Nat → Nat} {LK LT : Nat → Nat → Int} {u : Value} (h : OwnIns B w A x N C D VK VT LK LT) (hb : b < B) : OwnIns B (w.setCell ⟨b, i, none⟩ u) A x N C D VK VT LK LT := by
  have h1 := h.bc
  have h2 := h.cd
  exact ⟨ownsRow_setCell_other h.sats (fun e => by have h9 : B ≤ b := (World.ownsRow.lt h.sats _ e).1; omega) _, ownsRow_setCell_other h.cus (fun e => by have h9 : B ≤ b := (World.ownsRow.lt h.cus _ e).1; omega) _, h.cost.set_ (by omega), h.time.set_ (by omega), h.ck, h.tk, h.nl, h.ap, h.sb, h.kb, h.bc, h.cd⟩
/-- All nine of an instance's cells, stored one after another. -/
def storeI (w : World) (r : Nat) (y0 y1 y2 y3 y4 y5 y6 y7 y8 : Value) : World := ((((((((w.setCell ⟨r, 0, none⟩ y0).setCell ⟨r, 1, none⟩ y1).setCell ⟨r, 2, none⟩ y2).setCell ⟨r, 3, none⟩ y3).setCell ⟨r, 4, none⟩ y4).setCell ⟨r, 5, none⟩ y5).setCell ⟨r, 6, none⟩ y6).setCell ⟨r, 7, none⟩ y7).setCell ⟨r, 8, none⟩ y8
variable {y0 y1 y2 y3 y4 y5 y6 y7 y8 u0 u1 u2 u3 u4 u5 u6 u7 u8 : Value} {r : Nat} {T : TypeId}
theorem storeI_blk (h : w.heap[r]? = some (.cells #[u0, u1, u2, u3, u4, u5, u6, u7, u8] T (0, 0))) : (storeI w r y0 y1 y2 y3 y4 y5 y6 y7 y8).heap[r]? = some (.cells #[y0, y1, y2, y3, y4, y5, y6, y7, y8] T (0, 0)) := by
  unfold storeI
  obtain ⟨w0_, e0⟩ : ∃ x, w.setCell ⟨r, 0, none⟩ y0 = x := ⟨_, rfl⟩
  have h0 : w0_.heap[r]? = some (.cells #[y0, u1, u2, u3, u4, u5, u6, u7, u8] T (0, 0)) := by rw [← e0]; exact heap_setCell_same w r 0 _ _ y0 h
  rw [e0]
  clear e0
  obtain ⟨w1_, e1⟩ : ∃ x, w0_.setCell ⟨r, 1, none⟩ y1 = x := ⟨_, rfl⟩
  have h1 : w1_.heap[r]? = some (.cells #[y0, y1, u2, u3, u4, u5, u6, u7, u8] T (0, 0)) := by rw [← e1]; exact heap_setCell_same w0_ r 1 _ _ y1 h0
  rw [e1]
  clear e1
  obtain ⟨w2_, e2⟩ : ∃ x, w1_.setCell ⟨r, 2, none⟩ y2 = x := ⟨_, rfl⟩
  have h2 : w2_.heap[r]? = some (.cells #[y0, y1, y2, u3, u4, u5, u6, u7, u8] T (0, 0)) := by rw [← e2]; exact heap_setCell_same w1_ r 2 _ _ y2 h1
  rw [e2]
  clear e2
  obtain ⟨w3_, e3⟩ : ∃ x, w2_.setCell ⟨r, 3, none⟩ y3 = x := ⟨_, rfl⟩
  have h3 : w3_.heap[r]? = some (.cells #[y0, y1, y2, y3, u4, u5, u6, u7, u8] T (0, 0)) := by rw [← e3]; exact heap_setCell_same w2_ r 3 _ _ y3 h2
  rw [e3]
  clear e3
  obtain ⟨w4_, e4⟩ : ∃ x, w3_.setCell ⟨r, 4, none⟩ y4 = x := ⟨_, rfl⟩
  have h4 : w4_.heap[r]? = some (.cells #[y0, y1, y2, y3, y4, u5, u6, u7, u8] T (0, 0)) := by rw [← e4]; exact heap_setCell_same w3_ r 4 _ _ y4 h3
  rw [e4]
  clear e4
  obtain ⟨w5_, e5⟩ : ∃ x, w4_.setCell ⟨r, 5, none⟩ y5 = x := ⟨_, rfl⟩
  have h5 : w5_.heap[r]? = some (.cells #[y0, y1, y2, y3, y4, y5, u6, u7, u8] T (0, 0)) := by rw [← e5]; exact heap_setCell_same w4_ r 5 _ _ y5 h4
  rw [e5]
  clear e5
  obtain ⟨w6_, e6⟩ : ∃ x, w5_.setCell ⟨r, 6, none⟩ y6 = x := ⟨_, rfl⟩
  have h6 : w6_.heap[r]? = some (.cells #[y0, y1, y2, y3, y4, y5, y6, u7, u8] T (0, 0)) := by rw [← e6]; exact heap_setCell_same w5_ r 6 _ _ y6 h5
  rw [e6]
  clear e6
  obtain ⟨w7_, e7⟩ : ∃ x, w6_.setCell ⟨r, 7, none⟩ y7 = x := ⟨_, rfl⟩
  have h7 : w7_.heap[r]? = some (.cells #[y0, y1, y2, y3, y4, y5, y6, y7, u8] T (0, 0)) := by rw [← e7]; exact heap_setCell_same w6_ r 7 _ _ y7 h6
  rw [e7]
  clear e7
  obtain ⟨w8_, e8⟩ : ∃ x, w7_.setCell ⟨r, 8, none⟩ y8 = x := ⟨_, rfl⟩
  have h8 : w8_.heap[r]? = some (.cells #[y0, y1, y2, y3, y4, y5, y6, y7, y8] T (0, 0)) := by rw [← e8]; exact heap_setCell_same w7_ r 8 _ _ y8 h7
  rw [e8]
  clear e8
  exact h8
theorem storeI_below {B : Nat} (h : Below B w wr) (hr : B ≤ r) : Below B w (storeI wr r y0 y1 y2 y3 y4 y5 y6 y7 y8) :=
  ((((((((h.setCell (p := ⟨r, 0, none⟩) hr _).setCell (p := ⟨r, 1, none⟩) hr _).setCell (p := ⟨r, 2, none⟩) hr _).setCell (p := ⟨r, 3, none⟩) hr _).setCell (p := ⟨r, 4, none⟩) hr _).setCell (p := ⟨r, 5, none⟩) hr _).setCell (p := ⟨r, 6, none⟩) hr _).setCell (p := ⟨r, 7, none⟩) hr _).setCell (p := ⟨r, 8, none⟩) hr _
theorem storeI_own {B N C D : Nat} {A : InA} {x : Ins} {VK VT : Nat → Nat} {LK LT : Nat → Nat → Int} (h : OwnIns B w A x N C D VK VT LK LT) (hb : r < B) : OwnIns B (storeI w r y0 y1 y2 y3 y4 y5 y6 y7 y8) A x N C D VK VT LK LT :=
  ((((((((h.set_ hb).set_ hb).set_ hb).set_ hb).set_ hb).set_ hb).set_ hb).set_ hb).set_ hb
theorem cells9 (h : w.heap[r]? = some (.cells #[y0, y1, y2, y3, y4, y5, y6, y7, y8] T (0, 0))) : w.cell? ⟨r, 0, none⟩ = some y0 ∧ w.cell? ⟨r, 1, none⟩ = some y1 ∧ w.cell? ⟨r, 2, none⟩ = some y2 ∧ w.cell? ⟨r, 3, none⟩ = some y3 ∧ w.cell? ⟨r, 4, none⟩ = some y4 ∧ w.cell? ⟨r, 5, none⟩ = some y5 ∧ w.cell? ⟨r, 6, none⟩ = some y6 ∧ w.cell? ⟨r, 7, none⟩ = some y7 ∧ w.cell? ⟨r, 8, none⟩ = some y8 ∧ ∀ k, w.frozen? ⟨r, k, none⟩ = false :=
  ⟨by simp [World.cell?, h], by simp [World.cell?, h], by simp [World.cell?, h], by simp [World.cell?, h], by simp [World.cell?, h], by simp [World.cell?, h], by simp [World.cell?, h], by simp [World.cell?, h], by simp [World.cell?, h], fun k => by simp [World.frozen?, h]⟩
end Go.Proofs.Ytmnbpnjakbihdaa
