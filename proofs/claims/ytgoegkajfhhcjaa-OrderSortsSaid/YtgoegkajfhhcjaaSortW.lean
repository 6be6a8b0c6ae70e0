/- Package order: sorted: what lies in memory from round to round. -/
import Derived.Test.YtgoegkajfhhcjaaKahn
import Derived.Test.YtgoegkajfhhcjaaByFrom
import Derived.Test.YtgoegkajfhhcjaaHave
import Derived.Test.YtgoegkajfhhcjaaOrderSpec
namespace Go.Proofs.Ytgoegkajfhhcjaa
open Go.RowKit

variable {wa wr w2 w4 : World} {wb N pb xb g' cap' t len k : Nat} {wt wt2 : Nat → Int} {pv pv' lv lv' : Value} {P P' : List It} {ws : List Int} {X Y u : Int} {S : Nat → Prop} {l : List Ar} {x : Ar} {out : List Nat} {p : Nat → Bool}
/-- Of the first k arcs, how many lead to i. -/
def inTo (l : List Ar) (k i : Nat) : Nat := ((List.range k).filter (fun j => decide ((l.getD j (0, 0, 0)).2.1 = (i : Int)))).length
theorem inTo_step (hx : l[k]? = some x) (ht : x.2.1 = (t : Int)) (i : Nat) : ((inTo l (k + 1) i : Nat) : Int) = if i = t then (inTo l k t : Int) + 1 else (inTo l k i : Int) := by
  unfold inTo
  rw [List.range_succ, List.filter_append, List.length_append]
  by_cases e : i = t
  · subst e
    simp [List.getD, hx, ht]
  · rw [if_neg e]
    have : x.2.1 ≠ (i : Int) := fun h => e (by omega)
    simp [List.getD, hx, this]
theorem inTo_all (l : List Ar) (i : Nat) : inTo l l.length i = cntTo l (fun _ => true) i := by
  unfold inTo cntTo
  congr 2
theorem inTo_le (l : List Ar) (k i : Nat) : inTo l k i ≤ k := by
  unfold inTo
  exact Nat.le_trans (List.length_filter_le _ _) (by simp)

/-- The counts alone. -/
structure CW (wa wr : World) (wb N : Nat) (wt : Nat → Int) : Prop where
  below : Below wa.heap.size wa wr
  wait : wr.rowIs wb 3 N (fun i => .int .i64 (wt i))
  base : wa.heap.size = wb
theorem CW.later (h : CW wa wr wb N wt) (hb : Below wr.heap.size wr w2) : CW wa w2 wb N wt := ⟨h.below.trans (hb.mono h.below.size), rowIs_below h.wait hb, h.base⟩
theorem wait_set (h : wr.rowIs wb 3 N (fun i => .int .i64 (wt i))) (t : Nat) (u : Int) : (wr.setCell ⟨wb, t, none⟩ (.int .i64 u)).rowIs wb 3 N (fun i => .int .i64 (if i = t then u else wt i)) :=
  (h.set t (.int .i64 u)).congr (fun i _ => by by_cases e : i = t <;> simp [e])
theorem CW.set_ (h : CW wa wr wb N wt) (t : Nat) (u : Int) : CW wa (wr.setCell ⟨wb, t, none⟩ (.int .i64 u)) wb N (fun i => if i = t then u else wt i) :=
  ⟨h.below.setCell (p := ⟨wb, t, none⟩) (by rw [h.base]; exact Nat.le_refl _) _, wait_set h.wait t u, h.base⟩
theorem CW.congr (h : CW wa wr wb N wt) (e : ∀ i, i < N → wt i = wt2 i) : CW wa wr wb N wt2 := ⟨h.below, h.wait.congr (fun i hi => by rw [e i hi]), h.base⟩
theorem CW.start (wa : World) (N : Nat) (l : List Ar) : CW wa (wa.alloc (.cells (madeCells #[.int .i64 0] N) 3)) wa.heap.size N (fun i => (inTo l 0 i : Int)) :=
  ⟨(Below.refl _ _).alloc (Nat.le_refl _) _, (World.rowIs_made _ _ _ _).congr (fun i _ => by simp [inTo]), rfl⟩

/-- The counts lie in block wb; behind it the pile, and the row that grows. -/
structure SW (wa wr : World) (wb N : Nat) (wt : Nat → Int) (pb : Nat) (pv : Value) (P : List It) (lv : Value) (ws : List Int) : Prop where
  wait : wr.rowIs wb 3 N (fun i => .int .i64 (wt i))
  base : wa.heap.size = wb
  pile : Have wa pb pv P wr
  far1 : wb < pb
  far2 : ∀ k, pv.ownBlock = some k → wb < k
  row : wr.ownsRow (wb + 1) 3 1 lv ws.length (numsV ws)
  apart : ∀ k, lv.ownBlock = some k → k ≠ pb ∧ pv.ownBlock ≠ some k
theorem SW.kept (h : SW wa wr wb N wt pb pv P lv ws) (hm : Mod S wr w2) (h1 : ¬ S wb) (h2 : ¬ S pb) (h3 : ∀ k, pv.ownBlock = some k → ¬ S k) (h4 : ∀ k, lv.ownBlock = some k → ¬ S k) (h0 : ∀ k, S k → wb ≤ k) : SW wa w2 wb N wt pb pv P lv ws :=
  ⟨h.wait.of_block (hm.block wb h.wait.lt h1), h.base, h.pile.kept hm h2 h3 (fun k hk => by rw [h.base]; exact h0 k hk), h.far1, h.far2, owns_kept h.row hm h4, h.apart⟩
theorem SW.later (h : SW wa wr wb N wt pb pv P lv ws) (hb : Below wr.heap.size wr w2) : SW wa w2 wb N wt pb pv P lv ws :=
  h.kept (Mod.of_below (fun _ => False) hb) (fun h => h) (fun h => h) (fun _ _ h => h) (fun _ _ h => h) (fun _ h => h.elim)
theorem SW.set_ (h : SW wa wr wb N wt pb pv P lv ws) (t : Nat) (u : Int) : SW wa (wr.setCell ⟨wb, t, none⟩ (.int .i64 u)) wb N (fun i => if i = t then u else wt i) pb pv P lv ws := by
  have hm : Mod (fun k => k = wb) wr (wr.setCell ⟨wb, t, none⟩ (.int .i64 u)) := (Mod.refl (fun k => k = wb) wr).setCell (p := ⟨wb, t, none⟩) (.inr rfl) _
  have h1 := h.far1
  refine ⟨wait_set h.wait t u, h.base, h.pile.kept hm (by omega) (fun k hk e => by have := h.far2 k hk; omega) (fun k hk => by rw [h.base]; omega), h.far1, h.far2, owns_kept h.row hm (fun k hk e => by have := (World.ownsRow.lt h.row k hk).1; omega), h.apart⟩
theorem SW.congr (h : SW wa wr wb N wt pb pv P lv ws) (e : ∀ i, i < N → wt i = wt2 i) : SW wa wr wb N wt2 pb pv P lv ws :=
  ⟨h.wait.congr (fun i hi => by rw [e i hi]), h.base, h.pile, h.far1, h.far2, h.row, h.apart⟩
theorem SW.piled (h : SW wa wr wb N wt pb pv P lv ws) (hP : Have wa pb pv' P' w2) (ht : Turned pb pv pv' wr w2) : SW wa w2 wb N wt pb pv' P' lv ws := by
  have hwl := h.wait.lt
  refine ⟨h.wait.of_block (ht.mod.block wb hwl ?_), h.base, hP, h.far1, fun k hk => ?_, owns_kept h.row ht.mod (fun k hk hs => ?_), fun k hk => ⟨(h.apart k hk).1, ?_⟩⟩
  · rintro (e | e)
    · have := h.far1; omega
    · have := h.far2 _ e; omega
  · rcases ht.fresh with hf | ⟨g, hf, hg⟩
    · rw [hf] at hk; exact h.far2 k hk
    · rw [hf] at hk; injection hk with e; omega
  · rcases hs with hs | hs
    · exact (h.apart k hk).1 hs
    · exact (h.apart k hk).2 hs
  · have hlt := (World.ownsRow.lt h.row k hk).2
    rcases ht.fresh with hf | ⟨g, hf, hg⟩
    · rw [hf]; exact (h.apart k hk).2
    · rw [hf]; intro e; injection e with e; omega
theorem SW.rowed (h : SW wa wr wb N wt pb pv P lv ws) (hown : w4.ownsRow (wb + 1) 3 1 (.slice (some ⟨g', 0, none⟩) (ws.length + 1) cap') (ws.length + 1) (numsV ws ++ [.int .i64 u]))
    (hgrow : wr.grownBy w4 lv.ownBlock) (hfr : lv.ownBlock = some g' ∨ g' = wr.heap.size) : SW wa w4 wb N wt pb pv P (.slice (some ⟨g', 0, none⟩) (ws.length + 1) cap') (ws ++ [u]) := by
  have hm : Mod (fun k => lv.ownBlock = some k) wr w4 := (Mod.refl _ wr).grown hgrow (fun k e => .inr e)
  have hlt := World.ownsRow.lt h.row
  refine ⟨h.wait.of_block (hm.block wb h.wait.lt (fun e => by have := (hlt _ e).1; omega)), h.base, h.pile.kept hm (fun e => (h.apart pb e).1 rfl) (fun k hk e => (h.apart k e).2 hk) (fun k e => by have := (hlt k e).1; have := h.base; omega), h.far1, h.far2, ?_, fun k hk => ?_⟩
  · rw [List.length_append, numsV_snoc]
    exact hown
  · simp only [Value.ownBlock, Option.some.injEq] at hk
    subst hk
    rcases hfr with hf | hf
    · exact h.apart g' hf
    · have h1 := h.pile.lt
      refine ⟨by omega, fun e => ?_⟩
      have := (h.pile.own g' e).2
      omega
theorem SW.start (h : CW wa wr wb N wt) : SW wa (wr.alloc (.cells #[.slice none 0 0] 78)) wb N wt wr.heap.size (.slice none 0 0) [] (.slice none 0 0) [] :=
  ⟨h.wait.alloc _, h.base, Have.new h.below, h.wait.lt, fun k hk => by simp [Value.ownBlock] at hk, World.ownsRow_nil _ _ _ 1, fun k hk => by simp [Value.ownBlock] at hk⟩

/-- The thing of the round, in a block of its own. -/
structure XW (wr : World) (xb : Nat) (X Y : Int) (wb pb : Nat) (pv lv : Value) : Prop where
  blk : wr.heap[xb]? = some (.cells #[.int .i64 X, .int .i64 Y] 66 (0, 0))
  n1 : wb < xb
  n2 : xb ≠ pb
  n3 : pv.ownBlock ≠ some xb
  n4 : lv.ownBlock ≠ some xb
theorem XW.lt (h : XW wr xb X Y wb pb pv lv) : xb < wr.heap.size := (Array.getElem?_eq_some_iff.1 h.blk).1
theorem XW.c0 (h : XW wr xb X Y wb pb pv lv) : wr.cell? ⟨xb, 0, none⟩ = some (.int .i64 X) := by simp [World.cell?, h.blk]
theorem XW.c1 (h : XW wr xb X Y wb pb pv lv) : wr.cell? ⟨xb, 1, none⟩ = some (.int .i64 Y) := by simp [World.cell?, h.blk]
theorem XW.fz (h : XW wr xb X Y wb pb pv lv) (i : Nat) : wr.frozen? ⟨xb, i, none⟩ = false := by simp [World.frozen?, h.blk]
theorem XW.mod (h : XW wr xb X Y wb pb pv lv) (hm : Mod S wr w2) (hs : ¬ S xb) (h3 : pv'.ownBlock ≠ some xb) (h4 : lv'.ownBlock ≠ some xb) : XW w2 xb X Y wb pb pv' lv' :=
  ⟨(hm.block xb h.lt hs).trans h.blk, h.n1, h.n2, h3, h4⟩
theorem XW.later (h : XW wr xb X Y wb pb pv lv) (hb : Below wr.heap.size wr w2) : XW w2 xb X Y wb pb pv lv := h.mod (Mod.of_below (fun _ => False) hb) (fun h => h) h.n3 h.n4
theorem XW.set_ (h : XW wr xb X Y wb pb pv lv) (t : Nat) (v : Value) : XW (wr.setCell ⟨wb, t, none⟩ v) xb X Y wb pb pv lv :=
  h.mod ((Mod.refl (fun k => k = wb) wr).setCell (p := ⟨wb, t, none⟩) (.inr rfl) v) (by have := h.n1; omega) h.n3 h.n4
theorem XW.piled (h : XW wr xb X Y wb pb pv lv) (ht : Turned pb pv pv' wr w2) : XW w2 xb X Y wb pb pv' lv := by
  refine h.mod ht.mod ?_ ?_ h.n4
  · rintro (e | e)
    · exact h.n2 e
    · exact h.n3 e
  · rcases ht.fresh with hf | ⟨g, hf, hg⟩
    · rw [hf]; exact h.n3
    · rw [hf]; intro e; injection e with e; have := h.lt; omega
theorem XW.rowed (h : XW wr xb X Y wb pb pv lv) (hgrow : wr.grownBy w4 lv.ownBlock) (hfr : lv.ownBlock = some g' ∨ g' = wr.heap.size) {m : Nat} : XW w4 xb X Y wb pb pv (.slice (some ⟨g', 0, none⟩) m cap') := by
  have hm : Mod (fun k => lv.ownBlock = some k) wr w4 := (Mod.refl _ wr).grown hgrow (fun k e => .inr e)
  refine h.mod hm h.n4 h.n3 (fun e => ?_)
  simp only [Value.ownBlock, Option.some.injEq] at e
  subst e
  rcases hfr with hf | hf
  · exact h.n4 hf
  · have := h.lt; omega
/-- A new thing. -/
theorem SW.thing (h : SW wa wr wb N wt pb pv P lv ws) (X Y : Int) : SW wa (wr.alloc (.cells #[.int .i64 X, .int .i64 Y] 66)) wb N wt pb pv P lv ws ∧ XW (wr.alloc (.cells #[.int .i64 X, .int .i64 Y] 66)) wr.heap.size X Y wb pb pv lv :=
  ⟨h.later ((Below.refl _ _).alloc (Nat.le_refl _) _), heap_alloc_new _ _, h.wait.lt, by have := h.pile.lt; omega, fun e => by have := (h.pile.own _ e).2; omega, fun e => by have := (World.ownsRow.lt h.row _ e).2; omega⟩
/-- The thing is another one now. -/
theorem SW.rething (h : SW wa wr wb N wt pb pv P lv ws) (hx : XW wr xb X Y wb pb pv lv) (X2 Y2 : Int) :
    SW wa ((wr.setCell ⟨xb, 0, none⟩ (.int .i64 X2)).setCell ⟨xb, 1, none⟩ (.int .i64 Y2)) wb N wt pb pv P lv ws ∧ XW ((wr.setCell ⟨xb, 0, none⟩ (.int .i64 X2)).setCell ⟨xb, 1, none⟩ (.int .i64 Y2)) xb X2 Y2 wb pb pv lv := by
  have hm : Mod (fun k => k = xb) wr ((wr.setCell ⟨xb, 0, none⟩ (.int .i64 X2)).setCell ⟨xb, 1, none⟩ (.int .i64 Y2)) :=
    ((Mod.refl (fun k => k = xb) wr).setCell (p := ⟨xb, 0, none⟩) (.inr rfl) _).setCell (p := ⟨xb, 1, none⟩) (.inr rfl) _
  have n1 := hx.n1
  have n2 := hx.n2
  refine ⟨h.kept hm (by omega) (fun e => n2 e.symm) (fun k hk e => hx.n3 (e ▸ hk)) (fun k hk e => hx.n4 (e ▸ hk)) (fun k hk => by omega), ?_, n1, n2, hx.n3, hx.n4⟩
  exact heap_setCell_same _ _ _ _ _ _ (heap_setCell_same _ _ _ _ _ _ hx.blk)

/-- What Take has told, and what is left. -/
def Pend (l : List Ar) (N : Nat) (out : List Nat) (p : Nat → Bool) (P : List It) (b : Bool) (X Y : Int) : Prop :=
  (b = true ∧ ∃ c : Nat, X = (c : Int) ∧ Y = (c : Int) ∧ c < N ∧ c ∉ out ∧ Seq l N (out ++ [c]) ∧ Kahn l N out (out ++ [c]) [] p P) ∨ (b = false ∧ (Whole l N out ∨ Stuck l N out))
theorem take_next (h : SW wa wr wb N wt pb pv P lv ws) (hk : Kahn l N out out [] p P) (hs : Seq l N out) (hN : N ≤ 1000) :
    Calls Try.prog 31 #[.pointer (some ⟨pb, 0, none⟩)] wr fun e w' => ∃ (X Y : Int) (b : Bool) (pv' : Value) (P' : List It), e = .returned (.tuple #[.agg #[.int .i64 X, .int .i64 Y], .bool b]) ∧ SW wa w' wb N wt pb pv' P' lv ws ∧ Turned pb pv pv' wr w' ∧ Pend l N out p P' b X Y := by
  by_cases h0 : P = []
  · subst h0
    refine (take_empty h.pile).mono ?_
    rintro e w' ⟨rfl, hb⟩
    exact ⟨0, 0, false, pv, [], rfl, h.later hb, ⟨Mod.of_below _ hb, .inl rfl⟩, .inr ⟨rfl, hk.end_ hs⟩⟩
  · refine (take_have h.pile (List.length_pos_iff.2 h0) (by have := hk.len; omega)).mono ?_
    rintro e w' ⟨y, P', rfl, hp, hm, pv', hP, ht⟩
    obtain ⟨c, rfl, hc, hco, hsq, hka⟩ := hk.take_ hs hp hm
    exact ⟨_, _, true, pv', P', rfl, h.piled hP ht, ht, .inl ⟨rfl, c, rfl, rfl, hc, hco, hsq, hka⟩⟩
end Go.Proofs.Ytgoegkajfhhcjaa
