/- Package graph: next: for each node where the arcs from it lead. -/
import Derived.Test.YtgoegkajfhhcjaaCheck
import Derived.Test.YtgoegkajfhhcjaaOwn
import Derived.OneCell
import Derived.Deep.RegionHeld3
namespace Go.Proofs.Ytgoegkajfhhcjaa
open Go.RowKit

/-- Where arcs from node i lead. -/
def outs (l : List Ar) (i : Nat) : List Int := (l.filter (fun x => x.1 == (i : Int))).map (·.2.1)
theorem outs_snoc (l : List Ar) (x : Ar) (i : Nat) : outs (l ++ [x]) i = if x.1 = (i : Int) then outs l i ++ [x.2.1] else outs l i := by
  unfold outs
  rw [List.filter_append, List.map_append]
  by_cases h : x.1 = (i : Int) <;> simp [h]
theorem outs_take {l : List Ar} {k : Nat} {x : Ar} (h : l[k]? = some x) (i : Nat) : outs (l.take (k + 1)) i = if x.1 = (i : Int) then outs (l.take k) i ++ [x.2.1] else outs (l.take k) i := by
  rw [List.take_add_one, h]
  exact outs_snoc _ _ _
theorem outs_le (l : List Ar) (i : Nat) : (outs l i).length ≤ l.length := by
  unfold outs
  rw [List.length_map]
  exact List.length_filter_le _ _

variable {w wr w2 w4 : World} {a : Option Addr} {len cap B g L N g' cap' f : Nat} {l : List Ar} {n t : Int} {V : Nat → Value} {R : Nat → List Int} {o : Obj}
/-- Block L, new since B, is a row of N slices of numbers, each of them in a row of its own. -/
structure Adj (B : Nat) (w : World) (L N : Nat) (V : Nat → Value) (R : Nat → List Int) : Prop where
  ge : B ≤ L
  out : w.rowIs L 28 N V
  row : ∀ i, i < N → w.ownsRow (L + 1) 3 1 (V i) (R i).length (numsV (R i))
  apart : ∀ i j, i < N → j < N → i ≠ j → ∀ b, (V i).ownBlock = some b → (V j).ownBlock ≠ some b
theorem Adj.later (h : Adj B w L N V R) (hb : Below w.heap.size w w2) : Adj B w2 L N V R :=
  ⟨h.ge, rowIs_below h.out hb, fun i hi => owns_below (h.row i hi) hb, h.apart⟩
theorem Adj.kept {S : Nat → Prop} (h : Adj B w L N V R) (hm : Mod S w w2) (hs : ∀ k, L ≤ k → k < w.heap.size → ¬ S k) : Adj B w2 L N V R :=
  ⟨h.ge, h.out.of_block (hm.block L h.out.lt (hs L (Nat.le_refl _) h.out.lt)), fun i hi => owns_kept (h.row i hi) hm (fun k hk => hs k (by have := (World.ownsRow.lt (h.row i hi) k hk).1; omega) (World.ownsRow.lt (h.row i hi) k hk).2), h.apart⟩
theorem Adj.congr {R2 : Nat → List Int} (h : Adj B w L N V R) (e : ∀ i, i < N → R i = R2 i) : Adj B w L N V R2 :=
  ⟨h.ge, h.out, fun i hi => by rw [← e i hi]; exact h.row i hi, h.apart⟩
/-- One number more in row f. -/
theorem Adj.push (h : Adj B w L N V R) (hf : f < N) (hown : w4.ownsRow (L + 1) 3 1 (.slice (some ⟨g', 0, none⟩) ((R f).length + 1) cap') ((R f).length + 1) (numsV (R f) ++ [.int .i64 t]))
    (hgrow : w.grownBy w4 (V f).ownBlock) (hfr : (V f).ownBlock = some g' ∨ g' = w.heap.size) :
    Adj B (w4.setCell ⟨L, f, none⟩ (.slice (some ⟨g', 0, none⟩) ((R f).length + 1) cap')) L N (fun j => if j = f then .slice (some ⟨g', 0, none⟩) ((R f).length + 1) cap' else V j) (fun j => if j = f then R f ++ [t] else R j) ∧
    w4.cell? ⟨L, f, none⟩ = some (V f) ∧ w4.frozen? ⟨L, f, none⟩ = false := by
  have hlt : ∀ i, i < N → ∀ k, (V i).ownBlock = some k → L + 1 ≤ k ∧ k < w.heap.size := fun i hi k hk => World.ownsRow.lt (h.row i hi) k hk
  have ho4 : w4.rowIs L 28 N V := h.out.of_block (hgrow.block L h.out.lt (fun e => by have := (hlt f hf L e.symm).1; omega))
  refine ⟨⟨h.ge, ho4.set f _, fun i hi => ?_, fun i j hi hj hij b hb => ?_⟩, ho4.cell hf, ho4.frozen f⟩
  · by_cases e : i = f
    · subst e
      simp only [if_true, List.length_append, List.length_singleton, numsV_snoc]
      exact ownsRow_setCell_other hown (fun e => by have := (World.ownsRow.lt hown _ e).1; simp at this; omega) _
    · simp only [e, if_false]
      refine ownsRow_setCell_other ((h.row i hi).kept hgrow ?_) (fun e2 => by have := (hlt i hi _ e2).1; simp at this; omega) _
      cases hv : (V i).ownBlock with
      | none => exact .inl rfl
      | some b => exact .inr (fun e2 => h.apart i f hi hf e b hv (by rw [← e2]))
  · have new : ∀ b, some g' = some b → ∀ i, i < N → i ≠ f → (V i).ownBlock ≠ some b := fun b hb i hi hif he => by
      cases hb
      rcases hfr with hfr | hfr
      · exact h.apart i f hi hf hif g' he hfr
      · have := (hlt i hi _ he).2
        omega
    by_cases e1 : i = f
    · subst e1
      simp only [if_true] at hb
      rw [if_neg (fun e => hij e.symm)]
      exact new b hb j hj (fun e => hij e.symm)
    · rw [if_neg e1] at hb
      by_cases e2 : j = f
      · rw [if_pos e2]
        intro he
        exact new b he i hi e1 hb
      · rw [if_neg e2]
        exact h.apart i j hi hj hij b hb

theorem infoInt : (Try.prog.info? 3).map (fun i => (i.zero, i.size, i.bytes)) = some (some (.int .i64 0), 1, 8) := by kernel_rfl
theorem infoInts : (Try.prog.info? 28).map (fun i => (i.zero, i.size, i.bytes)) = some (some (.slice none 0 0), 1, 24) := by kernel_rfl
theorem infoBool : (Try.prog.info? 4).map (fun i => (i.zero, i.size, i.bytes)) = some (some (.bool false), 1, 1) := by kernel_rfl

theorem Adj.start (hL : wr.heap.size = L) (hB : B ≤ L) (N : Nat) : Adj B (wr.alloc (.cells (madeCells #[.slice none 0 0] N) 28)) L N (fun _ => .slice none 0 0) (outs (l.take 0)) := by
  subst hL
  exact ⟨hB, World.rowIs_made _ _ _ _, fun i _ => World.ownsRow_nil _ _ _ 1, fun i j _ _ _ b hb => by cases hb⟩

/-- What next's loop has. -/
structure NextW (w wr : World) (g : Nat) (n : Int) (a : Option Addr) (len cap : Nat) (L N : Nat) (V : Nat → Value) (R : Nat → List Int) : Prop where
  box : Box w wr g n a len cap
  adj : Adj w.heap.size wr L N V R
  lt : g < L
theorem NextW.later (h : NextW w wr g n a len cap L N V R) (hb : Below wr.heap.size wr w2) : NextW w w2 g n a len cap L N V R := ⟨h.box.later hb, h.adj.later hb, h.lt⟩
theorem NextW.push (h : NextW w wr g n a len cap L N V R) (hf : f < N) (hown : w4.ownsRow (L + 1) 3 1 (.slice (some ⟨g', 0, none⟩) ((R f).length + 1) cap') ((R f).length + 1) (numsV (R f) ++ [.int .i64 t]))
    (hgrow : wr.grownBy w4 (V f).ownBlock) (hfr : (V f).ownBlock = some g' ∨ g' = wr.heap.size) :
    NextW w (w4.setCell ⟨L, f, none⟩ (.slice (some ⟨g', 0, none⟩) ((R f).length + 1) cap')) g n a len cap L N (fun j => if j = f then .slice (some ⟨g', 0, none⟩) ((R f).length + 1) cap' else V j) (fun j => if j = f then R f ++ [t] else R j) := by
  have hlt : ∀ k, (V f).ownBlock = some k → L + 1 ≤ k ∧ k < wr.heap.size := fun k hk => World.ownsRow.lt (h.adj.row f hf) k hk
  have hge := h.adj.ge
  have hm : Mod (fun k => (V f).ownBlock = some k ∨ k = L) wr (w4.setCell ⟨L, f, none⟩ (.slice (some ⟨g', 0, none⟩) ((R f).length + 1) cap')) :=
    ((Mod.refl _ wr).grown hgrow (fun k hk => .inr (.inl hk))).setCell (p := ⟨L, f, none⟩) (.inr (.inr rfl)) _
  have hS : ∀ k, ((V f).ownBlock = some k ∨ k = L) → L ≤ k := fun k hk => by
    rcases hk with hk | hk
    · have := (hlt k hk).1; omega
    · omega
  refine ⟨⟨((Mod.of_below (fun k => (V f).ownBlock = some k ∨ k = L) h.box.below).trans hm).below (Nat.le_refl _) (fun k hk => Nat.le_trans hge (hS k hk)), h.box.ge, ?_⟩, (h.adj.push hf hown hgrow hfr).1, h.lt⟩
  rw [hm.block g h.box.lt (fun hk => by have := hS g hk; have := h.lt; omega)]
  exact h.box.blk
theorem NextW.congr {R2 : Nat → List Int} (h : NextW w wr g n a len cap L N V R) (e : ∀ i, i < N → R i = R2 i) : NextW w wr g n a len cap L N V R2 := ⟨h.box, h.adj.congr e, h.lt⟩
theorem push_outs {A C : List Int} {i f : Nat} {t : Int} {D : List Int} (h : C = if (f : Int) = (i : Int) then A ++ [t] else A) (hD : i = f → D = A) : (if i = f then D ++ [t] else A) = C := by
  rw [h]
  by_cases e : i = f
  · rw [if_pos e, if_pos (by omega), hD e]
  · rw [if_neg e, if_neg (by omega)]
end Go.Proofs.Ytgoegkajfhhcjaa
