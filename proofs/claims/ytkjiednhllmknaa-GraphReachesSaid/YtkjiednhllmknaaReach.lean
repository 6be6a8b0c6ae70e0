/- Package graph: Reach. -/
import Derived.Test.YtkjiednhllmknaaPath
import Derived.Test.YtkjiednhllmknaaNextDo
import Derived.WalkSmall
import Derived.Deep.LoopGhost
namespace Go.Proofs.Ytkjiednhllmknaa
open Go.RowKit

variable {w wr w2 w4 : World} {a : Option Addr} {len cap L C N g' cap' D n B B2 : Nat} {l : List Ar} {V : Nat → Value} {R : Nat → List Int} {c : Nat → Bool} {lv : Value} {left : List Int} {t : Int} {o : Obj}
theorem Adj.rebase (h : Adj B w L N V R) (hb : B2 ≤ B) : Adj B2 w L N V R := ⟨by have := h.ge; omega, h.out, h.row, h.apart⟩
theorem Adj.far {S : Nat → Prop} (h : Adj B w L N V R) (hm : Mod S w w2) (hL : ¬ S L) (hr : ∀ i, i < N → ∀ k, (V i).ownBlock = some k → ¬ S k) : Adj B w2 L N V R :=
  ⟨h.ge, h.out.of_block (hm.block L h.out.lt hL), fun i hi => owns_kept (h.row i hi) hm (hr i hi), h.apart⟩
theorem Adj.under (h : Adj B w L N V R) : ∀ i, i < N → ∀ k, (V i).ownBlock = some k → k < w.heap.size := fun i hi k hk => (World.ownsRow.lt (h.row i hi) k hk).2

/-- What the search has in memory: where arcs lead, the marks, the stack. -/
structure ReachW (w wr : World) (L C N : Nat) (V : Nat → Value) (R : Nat → List Int) (c : Nat → Bool) (lv : Value) (left : List Int) : Prop where
  below : Below w.heap.size w wr
  adj : Adj w.heap.size wr L N V R
  marks : wr.rowIs C 4 N (fun i => .bool (c i))
  ge : w.heap.size ≤ C
  ltL : L < C
  ltV : ∀ i, i < N → ∀ k, (V i).ownBlock = some k → k < C
  row : wr.ownsRow (C + 1) 3 1 lv left.length (numsV left)
theorem ReachW.later (h : ReachW w wr L C N V R c lv left) (hb : Below wr.heap.size wr w2) : ReachW w w2 L C N V R c lv left :=
  ⟨h.below.trans (hb.mono h.below.size), h.adj.later hb, rowIs_below h.marks hb, h.ge, h.ltL, h.ltV, owns_below h.row hb⟩
/-- The stack's last is taken off. -/
theorem ReachW.pop {m : Nat} {r : List Int} {x : Int} (h : ReachW w wr L C N V R c (.slice (some ⟨D, 0, none⟩) (m + 1) cap) (r ++ [x])) (hm : r.length = m) : ReachW w wr L C N V R c (.slice (some ⟨D, 0, none⟩) m cap) r := by
  refine ⟨h.below, h.adj, h.marks, h.ge, h.ltL, h.ltV, ?_⟩
  have h1 := h.row
  rw [numsV_snoc, List.length_append, List.length_singleton, hm] at h1
  rw [hm]
  exact ownsRow_pop (by simp [numsV, hm]) h1
/-- A mark is set. -/
theorem ReachW.mark (h : ReachW w wr L C N V R c lv left) (k : Nat) : ReachW w (wr.setCell ⟨C, k, none⟩ (.bool true)) L C N V R (setC c k) lv left := by
  have hm : Mod (fun b => b = C) wr (wr.setCell ⟨C, k, none⟩ (.bool true)) := (Mod.refl (fun b => b = C) wr).setCell (p := ⟨C, k, none⟩) (.inr rfl) _
  refine ⟨h.below.setCell h.ge _, h.adj.far hm (by have := h.ltL; omega) (fun i hi k hk => by have := h.ltV i hi k hk; omega), ?_, h.ge, h.ltL, h.ltV, owns_kept h.row hm (fun k hk => by have := (World.ownsRow.lt h.row k hk).1; omega)⟩
  refine (h.marks.set k (.bool true)).congr (fun i _ => ?_)
  by_cases e : i = k <;> simp [setC, e]
/-- One more on the stack. -/
theorem ReachW.push (h : ReachW w wr L C N V R c lv left) (hown : w4.ownsRow (C + 1) 3 1 (.slice (some ⟨g', 0, none⟩) (left.length + 1) cap') (left.length + 1) (numsV left ++ [.int .i64 t])) (hgrow : (wr.alloc o).grownBy w4 lv.ownBlock) :
    ReachW w w4 L C N V R c (.slice (some ⟨g', 0, none⟩) (left.length + 1) cap') (left ++ [t]) := by
  have hm : Mod (fun k => lv.ownBlock = some k) wr w4 := ((Mod.refl _ wr).alloc o).grown hgrow (fun k hk => .inr hk)
  have hC : ∀ k, lv.ownBlock = some k → C + 1 ≤ k := fun k hk => (World.ownsRow.lt h.row k hk).1
  have hCl := h.marks.lt
  refine ⟨((Mod.of_below (fun k => lv.ownBlock = some k) h.below).trans hm).below (Nat.le_refl _) (fun k hk => by have := hC k hk; have := h.ge; omega), h.adj.far hm (fun e => by have := hC _ e; have := h.ltL; omega) (fun i hi k hk e => by have := h.ltV i hi k hk; have := hC _ e; omega), h.marks.of_block (hm.block C hCl (fun e => by have := hC _ e; omega)), h.ge, h.ltL, h.ltV, ?_⟩
  rw [numsV_snoc, List.length_append]
  exact hown
theorem ReachW.start (hb : Below w.heap.size w w2) (ha : Adj B w2 L N V R) (hB : w.heap.size ≤ B) (hC : w2.heap.size = C) (s : Nat) :
    ReachW w ((w2.alloc (.cells ((madeCells #[.bool false] N).setIfInBounds s (.bool true)) 4)).alloc (.cells #[.int .i64 (s : Int)] 3)) L C N V R (setC (fun _ => false) s) (.slice (some ⟨C + 1, 0, none⟩) 1 1) [(s : Int)] := by
  subst hC
  have e1 : w2.alloc (.cells ((madeCells #[.bool false] N).setIfInBounds s (.bool true)) 4) = (w2.alloc (.cells (madeCells #[.bool false] N) 4)).setCell ⟨w2.heap.size, s, none⟩ (.bool true) := (World.setCell_alloc_at _ _ _ _ _ rfl).symm
  rw [e1]
  have hadj := (ha.rebase hB).later ((Below.refl w2.heap.size w2).alloc (Nat.le_refl _) (.cells (madeCells #[.bool false] N) 4))
  have h0 : ReachW w (w2.alloc (.cells (madeCells #[.bool false] N) 4)) L w2.heap.size N V R (fun _ => false) (.slice none 0 0) [] :=
    ⟨hb.alloc hb.size _, hadj, World.rowIs_made _ _ _ _, hb.size, ha.out.lt, ha.under, World.ownsRow_nil _ _ _ 1⟩
  have h1 := h0.mark s
  have h2 := h1.later ((Below.refl _ _).alloc (Nat.le_refl _) (.cells #[.int .i64 (s : Int)] 3))
  refine ⟨h2.below, h2.adj, h2.marks, h2.ge, h2.ltL, h2.ltV, ?_⟩
  have := World.ownsRow_lit (base := w2.heap.size + 1) (e := 3) (size := 1) ((w2.alloc (.cells (madeCells #[.bool false] N) 4)).setCell ⟨w2.heap.size, s, none⟩ (.bool true)) #[.int .i64 (s : Int)] 1 (by simp) (by simp [maxLen]) rfl
  simpa [numsV] using this

/-- None, where Check has an error. -/
theorem reach_bad (n : Int) (s : Int) (a : Option Addr) (cap : Nat) (w : World) (hl : IsArcs w.heap.size w a len l) (hc : checkV n l ≠ 0) :
    Calls Try.prog 14 #[.agg #[.int .i64 n, .slice a len cap], .int .i64 s] w fun e w' => e = .returned (.slice none 0 0) ∧ Below w.heap.size w w' := by
  have HG := Lib.hid (Box.make (Below.refl _ w) n a len cap)
  have HL := Lib.hid hl; clear hl
  have hc2 : (checkV n l != 0) = true := by simpa using hc
  clear hc
  have HCK := Lib.hid (check_any n cap a _ (HG.out.arcsHere HL.out))
  generalize checkV n l = cv at *
  go_enter Try.func14, Try.ntmps14
  go_wp2_with (go_at_call 8; refine HCK.out.mono ?_; rintro e w2 ⟨rfl, hb2⟩; have HG2 := Lib.hid (HG.out.later hb2); clear hb2)
  go_ret
  exact ⟨rfl, HG2.out.below⟩
/-- None, where there is no such node. -/
theorem reach_no (n : Int) (s : Int) (a : Option Addr) (cap : Nat) (w : World) (hl : IsArcs w.heap.size w a len l) (hc : checkV n l = 0) (hs : ¬ (0 ≤ s ∧ s < n)) :
    Calls Try.prog 14 #[.agg #[.int .i64 n, .slice a len cap], .int .i64 s] w fun e w' => e = .returned (.slice none 0 0) ∧ Below w.heap.size w w' := by
  have HG := Lib.hid (Box.make (Below.refl _ w) n a len cap)
  have HL := Lib.hid hl; clear hl
  have HCK := Lib.hid (check_any n cap a _ (HG.out.arcsHere HL.out))
  rw [hc] at HCK
  have HS := Lib.hid hs
  clear hc hs
  go_enter Try.func14, Try.ntmps14
  go_wp2_with (first
    | (go_at_call 8; refine HCK.out.mono ?_; rintro e w2 ⟨rfl, hb2⟩; have HG2 := Lib.hid (HG.out.later hb2); have x0 := HG2.out.c0; have x1 := HG2.out.c1; clear hb2)
    | (go_at_call 9; refine (has_no HS.out _ _ _ _).mono ?_; rintro e w3 ⟨rfl, hb3⟩; have HG3 := Lib.hid (HG2.out.later hb3); clear hb3))
  go_ret
  exact ⟨rfl, HG3.out.below⟩
end Go.Proofs.Ytkjiednhllmknaa
