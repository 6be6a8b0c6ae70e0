/- Package path: for each node the arcs from it, by their numbers: what it is, how it lies in memory. -/
import Derived.Test.YtmmhdjibigopfaaNext
import Derived.Test.YtmmhdjibigopfaaBegun
namespace Go.Proofs.Ytmmhdjibigopfaa
open Go.RowKit

/-- The numbers of the arcs from node i. -/
def outK (l : List Ar) (i : Nat) : List Int := (l.zipIdx.filter (fun p => p.1.1 == (i : Int))).map (fun p => (p.2 : Int))
theorem outK_snoc (l : List Ar) (x : Ar) (i : Nat) : outK (l ++ [x]) i = if x.1 = (i : Int) then outK l i ++ [(l.length : Int)] else outK l i := by
  unfold outK
  rw [List.zipIdx_append, List.filter_append, List.map_append]
  by_cases h : x.1 = (i : Int) <;> simp [h]
theorem outK_take {l : List Ar} {k : Nat} {x : Ar} (h : l[k]? = some x) (i : Nat) : outK (l.take (k + 1)) i = if x.1 = (i : Int) then outK (l.take k) i ++ [(k : Int)] else outK (l.take k) i := by
  have hk : k < l.length := (List.getElem?_eq_some_iff.1 h).1
  have hl : (l.take k).length = k := by rw [List.length_take]; omega
  have h2 := outK_snoc (l.take k) x i
  rw [hl] at h2
  rw [List.take_add_one, h]
  exact h2
theorem outK_le (l : List Ar) (i : Nat) : (outK l i).length ≤ l.length := by
  unfold outK
  rw [List.length_map]
  refine Nat.le_trans (List.length_filter_le _ _) ?_
  simp
theorem mem_outK {l : List Ar} {i : Nat} {v : Int} : v ∈ outK l i ↔ ∃ (k : Nat) (x : Ar), v = (k : Int) ∧ l[k]? = some x ∧ x.1 = (i : Int) := by
  unfold outK
  rw [List.mem_map]
  constructor
  · rintro ⟨⟨x, k⟩, h, rfl⟩
    rw [List.mem_filter] at h
    exact ⟨k, x, rfl, List.mk_mem_zipIdx_iff_getElem?.1 h.1, by simpa using h.2⟩
  · rintro ⟨k, x, rfl, hx, hi⟩
    exact ⟨(x, k), List.mem_filter.2 ⟨List.mk_mem_zipIdx_iff_getElem?.2 hx, by simpa using hi⟩, rfl⟩

variable {w wr w2 w4 : World} {a : Option Addr} {len cap B g L N g' cap' f co tb : Nat} {l : List Ar} {n t : Int} {V : Nat → Value} {R : Nat → List Int} {o : Obj} {vf vb : Value}
/-- Block L, new since B, is a row of N slices of numbers, each of them in a row of its own; block co is the variable that has it. -/
structure AdjK (B : Nat) (w : World) (co L N : Nat) (V : Nat → Value) (R : Nat → List Int) : Prop where
  ge : B ≤ L
  lt : L < co
  out : w.rowIs L 29 N V
  var : w.heap[co]? = some (.cells #[.slice (some ⟨L, 0, none⟩) N N] 77 (0, 0))
  row : ∀ i, i < N → w.ownsRow (co + 1) 3 1 (V i) (R i).length (numsV (R i))
  apart : ∀ i j, i < N → j < N → i ≠ j → ∀ b, (V i).ownBlock = some b → (V j).ownBlock ≠ some b
theorem AdjK.ltc (h : AdjK B w co L N V R) : co < w.heap.size := (Array.getElem?_eq_some_iff.1 h.var).1
theorem AdjK.later (h : AdjK B w co L N V R) (hb : Below w.heap.size w w2) : AdjK B w2 co L N V R :=
  ⟨h.ge, h.lt, rowIs_below h.out hb, (hb.block co h.ltc).trans h.var, fun i hi => owns_below (h.row i hi) hb, h.apart⟩
theorem AdjK.kept {S : Nat → Prop} (h : AdjK B w co L N V R) (hm : Mod S w w2) (hs : ∀ k, L ≤ k → k < w.heap.size → ¬ S k) : AdjK B w2 co L N V R :=
  ⟨h.ge, h.lt, h.out.of_block (hm.block L h.out.lt (hs L (Nat.le_refl _) h.out.lt)), (hm.block co h.ltc (hs co (Nat.le_of_lt h.lt) h.ltc)).trans h.var,
    fun i hi => owns_kept (h.row i hi) hm (fun k hk => hs k (by have := (World.ownsRow.lt (h.row i hi) k hk).1; have := h.lt; omega) (World.ownsRow.lt (h.row i hi) k hk).2), h.apart⟩
theorem AdjK.congr {R2 : Nat → List Int} (h : AdjK B w co L N V R) (e : ∀ i, i < N → R i = R2 i) : AdjK B w co L N V R2 :=
  ⟨h.ge, h.lt, h.out, h.var, fun i hi => by rw [← e i hi]; exact h.row i hi, h.apart⟩
theorem AdjK.cell (h : AdjK B w co L N V R) : w.cell? ⟨co, 0, none⟩ = some (.slice (some ⟨L, 0, none⟩) N N) := by simp [World.cell?, h.var]
/-- One number more in row f. -/
theorem AdjK.push (h : AdjK B w co L N V R) (hf : f < N) (hown : w4.ownsRow (co + 1) 3 1 (.slice (some ⟨g', 0, none⟩) ((R f).length + 1) cap') ((R f).length + 1) (numsV (R f) ++ [.int .i64 t]))
    (hgrow : w.grownBy w4 (V f).ownBlock) (hfr : (V f).ownBlock = some g' ∨ g' = w.heap.size) :
    AdjK B (w4.setCell ⟨L, f, none⟩ (.slice (some ⟨g', 0, none⟩) ((R f).length + 1) cap')) co L N (fun j => if j = f then .slice (some ⟨g', 0, none⟩) ((R f).length + 1) cap' else V j) (fun j => if j = f then R f ++ [t] else R j) ∧
    w4.cell? ⟨L, f, none⟩ = some (V f) ∧ w4.frozen? ⟨L, f, none⟩ = false := by
  have hlt : ∀ i, i < N → ∀ k, (V i).ownBlock = some k → co + 1 ≤ k ∧ k < w.heap.size := fun i hi k hk => World.ownsRow.lt (h.row i hi) k hk
  have hlc := h.lt
  have ho4 : w4.rowIs L 29 N V := h.out.of_block (hgrow.block L h.out.lt (fun e => by have := (hlt f hf L e.symm).1; omega))
  have hv4 : w4.heap[co]? = some (.cells #[.slice (some ⟨L, 0, none⟩) N N] 77 (0, 0)) := (hgrow.block co h.ltc (fun e => by have := (hlt f hf co e.symm).1; omega)).trans h.var
  refine ⟨⟨h.ge, h.lt, ho4.set f _, ?_, fun i hi => ?_, fun i j hi hj hij b hb => ?_⟩, ho4.cell hf, ho4.frozen f⟩
  · rw [RowKit.Below.heap_setCell _ _ _ _ (by simp only; omega)]
    exact hv4
  · by_cases e : i = f
    · subst e
      simp only [if_true, List.length_append, List.length_singleton, numsV_snoc]
      exact ownsRow_setCell_other hown (fun e => by have := (World.ownsRow.lt hown _ e).1; simp at this; omega) _
    · simp only [e, if_false]
      refine ownsRow_setCell_other ((h.row i hi).kept hgrow ?_) (fun e2 => by have := (hlt i hi _ e2).1; simp at this; omega) _
      cases hv : (V i).ownBlock with
      | none => exact .inl rfl
      | some b => exact .inr (fun e2 => h.apart i f hi hf e b hv (by rw [← e2]))
  · have new : ∀ b, some g' = some b → ∀ i, i < N → i ≠ f → (V i).ownBlock ≠ some b := fun b hb i hi hif he => by
      cases hb
      rcases hfr with hfr | hfr
      · exact h.apart i f hi hf hif g' he hfr
      · have := (hlt i hi _ he).2
        omega
    by_cases e1 : i = f
    · subst e1
      simp only [if_true] at hb
      rw [if_neg (fun e => hij e.symm)]
      exact new b hb j hj (fun e => hij e.symm)
    · rw [if_neg e1] at hb
      by_cases e2 : j = f
      · rw [if_pos e2]
        intro he
        exact new b he i hi e1 hb
      · rw [if_neg e2]
        exact h.apart i j hi hj hij b hb
theorem AdjK.start (hL : wr.heap.size = L) (hB : B ≤ L) (N : Nat) : AdjK B ((wr.alloc (.cells (madeCells #[.slice none 0 0] N) 29)).alloc (.cells #[.slice (some ⟨L, 0, none⟩) N N] 77)) (L + 1) L N (fun _ => .slice none 0 0) (outK (l.take 0)) := by
  subst hL
  exact ⟨hB, Nat.lt_succ_self _, (World.rowIs_made _ _ _ _).of_block (Below.heap_alloc _ _ _ (by simp)), heap_alloc2_new _ _ _, fun i _ => World.ownsRow_nil _ _ _ 1, fun i j _ _ _ b hb => by cases hb⟩

/-- What looker's loop has: the tree's box, the graph's, the rows. -/
structure LookerW (w wr : World) (tb g : Nat) (vf vb : Value) (n : Int) (a : Option Addr) (len cap co L N : Nat) (V : Nat → Value) (R : Nat → List Int) : Prop where
  box : Box w wr g n a len cap
  tree : wr.heap[tb]? = some (.cells #[vf, vb] 31 (0, 0))
  adj : AdjK w.heap.size wr co L N V R
  lt : g < L
  lt0 : tb < g
theorem LookerW.later (h : LookerW w wr tb g vf vb n a len cap co L N V R) (hb : Below wr.heap.size wr w2) : LookerW w w2 tb g vf vb n a len cap co L N V R :=
  ⟨h.box.later hb, (hb.block tb (Array.getElem?_eq_some_iff.1 h.tree).1).trans h.tree, h.adj.later hb, h.lt, h.lt0⟩
theorem LookerW.push (h : LookerW w wr tb g vf vb n a len cap co L N V R) (hf : f < N) (hown : w4.ownsRow (co + 1) 3 1 (.slice (some ⟨g', 0, none⟩) ((R f).length + 1) cap') ((R f).length + 1) (numsV (R f) ++ [.int .i64 t]))
    (hgrow : wr.grownBy w4 (V f).ownBlock) (hfr : (V f).ownBlock = some g' ∨ g' = wr.heap.size) :
    LookerW w (w4.setCell ⟨L, f, none⟩ (.slice (some ⟨g', 0, none⟩) ((R f).length + 1) cap')) tb g vf vb n a len cap co L N (fun j => if j = f then .slice (some ⟨g', 0, none⟩) ((R f).length + 1) cap' else V j) (fun j => if j = f then R f ++ [t] else R j) := by
  have hlt : ∀ k, (V f).ownBlock = some k → co + 1 ≤ k ∧ k < wr.heap.size := fun k hk => World.ownsRow.lt (h.adj.row f hf) k hk
  have hge := h.adj.ge
  have hlc := h.adj.lt
  have hl1 := h.lt
  have hl0 := h.lt0
  have hm : Mod (fun k => (V f).ownBlock = some k ∨ k = L) wr (w4.setCell ⟨L, f, none⟩ (.slice (some ⟨g', 0, none⟩) ((R f).length + 1) cap')) :=
    ((Mod.refl _ wr).grown hgrow (fun k hk => .inr (.inl hk))).setCell (p := ⟨L, f, none⟩) (.inr (.inr rfl)) _
  have hS : ∀ k, ((V f).ownBlock = some k ∨ k = L) → L ≤ k := fun k hk => by
    rcases hk with hk | hk
    · have := (hlt k hk).1; omega
    · omega
  refine ⟨⟨((Mod.of_below (fun k => (V f).ownBlock = some k ∨ k = L) h.box.below).trans hm).below (Nat.le_refl _) (fun k hk => Nat.le_trans hge (hS k hk)), h.box.ge, ?_⟩, ?_, (h.adj.push hf hown hgrow hfr).1, h.lt, h.lt0⟩
  · rw [hm.block g h.box.lt (fun hk => by have := hS g hk; omega)]
    exact h.box.blk
  · rw [hm.block tb (Array.getElem?_eq_some_iff.1 h.tree).1 (fun hk => by have := hS tb hk; omega)]
    exact h.tree
theorem looker_box (w : World) (vf vb : Value) (N : Nat) (a : Option Addr) (len cap : Nat) (o o2 : Obj) : Box w ((((w.alloc (.cells #[vf, vb] 31)).alloc (.cells #[.int .i64 (N : Int), .slice a len cap] 26)).alloc o).alloc o2) (w.heap.size + 1) (N : Int) a len cap := by
  have h := ((Box.make ((Below.refl w.heap.size w).alloc (Nat.le_refl _) (.cells #[vf, vb] 31)) (N : Int) a len cap).alloc o).alloc o2
  simpa using h
theorem looker_tree (w : World) (vf vb : Value) (o o2 o3 : Obj) : ((((w.alloc (.cells #[vf, vb] 31)).alloc o).alloc o2).alloc o3).heap[w.heap.size]? = some (.cells #[vf, vb] 31 (0, 0)) := by
  rw [Below.heap_alloc _ _ _ (by simp; omega), Below.heap_alloc _ _ _ (by simp; omega), Below.heap_alloc _ _ _ (by simp)]
  exact heap_alloc_new _ _
theorem LookerW.congr {R2 : Nat → List Int} (h : LookerW w wr tb g vf vb n a len cap co L N V R) (e : ∀ i, i < N → R i = R2 i) : LookerW w wr tb g vf vb n a len cap co L N V R2 := ⟨h.box, h.tree, h.adj.congr e, h.lt, h.lt0⟩
end Go.Proofs.Ytmmhdjibigopfaa
