/- Joined: Pipes, LPipes. -/
import Derived.Test.YtfkommjlmolniaaGreatDoorHd1
import Derived.OneCell
import Derived.Deep.RegionHeld3
set_option linter.unusedVariables false
section

namespace Go.Proofs.YtfkommjlmolniaaGreatDoor
open Go.RowKit
variable {w wr w2 : World} {a : Option Addr} {len cap B B2 g k : Nat} {l : List Pi} {n : Int} {ws : List Int}
structure NBox (w wr : World) (g : Nat) (n : Int) (a : Option Addr) (len cap : Nat) : Prop where
 below : Below w.heap.size w wr
 ge : w.heap.size ≤ g
 blk : wr.heap[g]? = some (.cells #[.int .i64 n,.slice a len cap] 105 (0,0))
theorem NBox.lt (h : NBox w wr g n a len cap) : g < wr.heap.size := (Array.getElem?_eq_some_iff.1 h.blk).1
theorem NBox.make (h : Below w.heap.size w wr) (n : Int) (a : Option Addr) (len cap : Nat) : NBox w (wr.alloc (.cells #[.int .i64 n,.slice a len cap] 105)) wr.heap.size n a len cap :=
 ⟨h.alloc h.size _,h.size,heap_alloc_new _ _⟩
theorem NBox.later (h : NBox w wr g n a len cap) (hb : Below wr.heap.size wr w2) : NBox w w2 g n a len cap :=
 ⟨h.below.trans (hb.mono h.below.size),h.ge,(hb.block g h.lt).trans h.blk⟩
theorem NBox.alloc (h : NBox w wr g n a len cap) (o : Obj) : NBox w (wr.alloc o) g n a len cap := ⟨h.below.alloc h.below.size o,h.ge,(Below.heap_alloc _ _ _ h.lt).trans h.blk⟩
theorem NBox.kept {S : Nat → Prop} (h : NBox w wr g n a len cap) (hm : Mod S wr w2) (hS : ∀ k,S k → w.heap.size ≤ k) (hg : ¬ S g) : NBox w w2 g n a len cap :=
 ⟨((Mod.of_below S h.below).trans hm).below (Nat.le_refl _) hS,h.ge,(hm.block g h.lt hg).trans h.blk⟩
theorem NBox.c0 (h : NBox w wr g n a len cap) : wr.cell? ⟨g,0,none⟩ = some (.int .i64 n) := by simp [World.cell?,h.blk]
theorem NBox.c1 (h : NBox w wr g n a len cap) : wr.cell? ⟨g,1,none⟩ = some (.slice a len cap) := by simp [World.cell?,h.blk]
theorem NBox.pipes (h : NBox w wr g n a len cap) (hl : IsPipes w.heap.size w a len l) : IsPipes w.heap.size wr a len l := hl.later h.below
theorem NBox.pipesHere (h : NBox w wr g n a len cap) (hl : IsPipes w.heap.size w a len l) : IsPipes wr.heap.size wr a len l := (hl.later h.below).mono h.below.size
/-! ### What Check and Ends answer -/
def isIn (n i : Int) : Bool := decide (0 ≤ i ∧ i < n)
def okP (n : Int) (x : Pi) : Bool := isIn n x.1 && isIn n x.2.1 && decide (0 ≤ x.2.2.1 ∧ x.2.2.1 ≤ 1099511627776) && decide (-1099511627776 ≤ x.2.2.2 ∧ x.2.2.2 ≤ 1099511627776)
theorem okP_true {x : Pi} : okP n x = true ↔ (0 ≤ x.1 ∧ x.1 < n) ∧ (0 ≤ x.2.1 ∧ x.2.1 < n) ∧ (0 ≤ x.2.2.1 ∧ x.2.2.1 ≤ 1099511627776) ∧ -1099511627776 ≤ x.2.2.2 ∧ x.2.2.2 ≤ 1099511627776 := by
 simp [okP,isIn,and_assoc]
def Z1s (n : Int) (l : List Pi) : Int := if n < 0 ∨ 1000 < n ∨ 20000 < l.length then 4 else if l.all (okP n) then 0 else 2
def endsP (n : Int) (l : List Pi) (s t : Int) : Int := if Z1s n l ≠ 0 then Z1s n l else if isIn n s = true ∧ isIn n t = true ∧ s ≠ t then 0 else 2
theorem checkP_zero : Z1s n l = 0 ↔ (0 ≤ n ∧ n ≤ 1000 ∧ l.length ≤ 20000) ∧ ∀ x ∈ l,okP n x = true := by
 unfold Z1s; by_cases h : n < 0 ∨ 1000 < n ∨ 20000 < l.length
 ·rw [if_pos h]
  constructor
  ·intro h; cases h
  ·intro h2; omega
 ·rw [if_neg h]
  by_cases h2 : l.all (okP n) = true
  ·rw [if_pos h2]
   exact ⟨fun _ => ⟨by omega,List.all_eq_true.1 h2⟩,fun _ => rfl⟩
  ·rw [if_neg h2]
   constructor
   ·intro h; cases h
   ·intro h3; exact absurd (List.all_eq_true.2 h3.2) h2
theorem endsP_zero {s t : Int} : endsP n l s t = 0 ↔ Z1s n l = 0 ∧ (0 ≤ s ∧ s < n) ∧ (0 ≤ t ∧ t < n) ∧ s ≠ t := by
 unfold endsP; by_cases h : Z1s n l = 0
 ·rw [if_neg (by simp [h])]
  by_cases h2 : isIn n s = true ∧ isIn n t = true ∧ s ≠ t
  ·rw [if_pos h2]
   simp [isIn] at h2
   exact ⟨fun _ => ⟨h,h2.1,h2.2.1,h2.2.2⟩,fun _ => rfl⟩
  ·rw [if_neg h2]
   simp [isIn] at h2
   constructor
   ·intro h; cases h
   ·intro h3; exact absurd h3.2.2.2 (fun e => e (h2 h3.2.1.1 h3.2.1.2 h3.2.2.1.1 h3.2.2.1.2))
 ·rw [if_pos h]
  exact ⟨fun e => absurd e h,fun e => absurd e.1 h⟩
end Go.Proofs.YtfkommjlmolniaaGreatDoor
end
section

namespace Go.Proofs.YtfkommjlmolniaaGreatDoor
open Go.RowKit
variable {w wr w2 w4 : World} {a : Option Addr} {len cap B B2 g r g' cap' k : Nat} {l xs : List Pi} {N : Int} {x y : Pi} {lv : Value} {o : Obj}
def flatP (l : List Pi) : List Value := l.flatMap encP
theorem Zfm (l : List Pi) (x : Pi) : flatP (l ++ [x]) = flatP l ++ encP x := by simp [flatP]
theorem Zal : ∀ (l : List Pi) (k : Nat) (x : Pi),l[k]? = some x → (flatP l)[k * 4]? = some (.int .i64 x.1) ∧ (flatP l)[k * 4 + 1]? = some (.int .i64 x.2.1) ∧ (flatP l)[k * 4 + 2]? = some (.int .i64 x.2.2.1) ∧ (flatP l)[k * 4 + 3]? = some (.int .i64 x.2.2.2)
 | [],k,x,h => by simp at h
 | y :: r,0,x,h => by
  simp at h
  subst h; exact ⟨rfl,rfl,rfl,rfl⟩
 | y :: r,k + 1,x,h => by
  have ih := Zal r k x (by simpa using h)
  unfold flatP at ih ⊢; rw [List.flatMap_cons]; have e1 : (k + 1) * 4 = (k * 4) + 1 + 1 + 1 + 1 := by omega
  rw [e1]; exact ih
theorem Zfn {n : Nat} (h : w.ownsRow B 127 4 (.slice a n cap) xs.length (flatP xs)) : n = xs.length ∧ IsPipes w.heap.size w a n xs := by
 rcases h.2 with ⟨e,h0⟩ | ⟨g,cap',cur,hv,hb,hg,_⟩
 ·injection e with _ e2 _
  subst e2; exact ⟨by omega,by omega,.inl rfl⟩
 ·have hh := h
  injection hv with e1 e2 e3
  subst e1 e2 e3; refine ⟨rfl,rfl,.inr ⟨g,0,rfl,(Array.getElem?_eq_some_iff.1 hg).1,fun k x hk => ?_⟩⟩; obtain ⟨q0,q1,q2,q3⟩ := Zal xs k x hk; have c0 := World.ownsRow.cells hh (g := g) rfl _ _ q0; have c1 := World.ownsRow.cells hh (g := g) rfl _ _ q1; have c2 := World.ownsRow.cells hh (g := g) rfl _ _ q2; have c3 := World.ownsRow.cells hh (g := g) rfl _ _ q3; simp only [Addr.add_lit,Nat.zero_add] at c0 c1 c2 c3
  simp only [Nat.zero_add]
  exact ⟨c0,c1,c2,c3⟩
structure NMakeW (w wr : World) (r g : Nat) (N : Int) (lv : Value) (xs : List Pi) : Prop where
 below : Below w.heap.size w wr
 res : wr.heap[r]? = some (.cells #[.int .i64 0,.slice none 0 0] 105 (0,0))
 blk : wr.heap[g]? = some (.cells #[.int .i64 N,lv] 105 (0,0))
 row : wr.ownsRow (g + 1) 127 4 lv xs.length (flatP xs)
 ge : w.heap.size ≤ r
 lt : r < g
theorem NMakeW.ltg (h : NMakeW w wr r g N lv xs) : g < wr.heap.size := (Array.getElem?_eq_some_iff.1 h.blk).1
theorem NMakeW.later (h : NMakeW w wr r g N lv xs) (hb : Below wr.heap.size wr w2) : NMakeW w w2 r g N lv xs :=
 ⟨h.below.trans (hb.mono h.below.size),(hb.block r (by have := h.ltg; have := h.lt; omega)).trans h.res,(hb.block g h.ltg).trans h.blk,Z06 h.row hb,h.ge,h.lt⟩
theorem NMakeW.c0 (h : NMakeW w wr r g N lv xs) : wr.cell? ⟨g,0,none⟩ = some (.int .i64 N) := by simp [World.cell?,h.blk]
theorem NMakeW.c1 (h : NMakeW w wr r g N lv xs) : wr.cell? ⟨g,1,none⟩ = some lv := by simp [World.cell?,h.blk]
theorem NMakeW.push (h : NMakeW w wr r g N lv xs) (hown : w4.ownsRow (g + 1) 127 4 (.slice (some ⟨g',0,none⟩) (xs.length + 1) cap') (xs.length + 1) (flatP xs ++ encP y)) (hgrow : wr.grownBy w4 lv.ownBlock) :
  NMakeW w (w4.setCell ⟨g,1,none⟩ (.slice (some ⟨g',0,none⟩) (xs.length + 1) cap')) r g N (.slice (some ⟨g',0,none⟩) (xs.length + 1) cap') (xs ++ [y]) ∧
  w4.cell? ⟨g,0,none⟩ = some (.int .i64 N) ∧ w4.cell? ⟨g,1,none⟩ = some lv ∧ w4.frozen? ⟨g,1,none⟩ = false := by
 have hm : Mod (fun k => lv.ownBlock = some k) wr w4 := (Mod.refl _ wr).grown hgrow (fun k hk => .inr hk); have hC : ∀ k,lv.ownBlock = some k → g + 1 ≤ k := fun k hk => (World.ownsRow.lt h.row k hk).1; have hge := h.ge; have hlt := h.lt; have hb4 : w4.heap[g]? = some (.cells #[.int .i64 N,lv] 105 (0,0)) := (hm.block g h.ltg (fun e => by have := hC _ e; omega)).trans h.blk
 have hr4 : w4.heap[r]? = some (.cells #[.int .i64 0,.slice none 0 0] 105 (0,0)) := (hm.block r (by have := h.ltg; omega) (fun e => by have := hC _ e; omega)).trans h.res
 have hbe : Below w.heap.size w w4 := ((Mod.of_below (fun k => lv.ownBlock = some k) h.below).trans hm).below (Nat.le_refl _) (fun k hk => by have := hC k hk; omega)
 refine ⟨⟨hbe.setCell (show w.heap.size ≤ g by omega) _,?_,heap_setCell_same _ _ _ _ _ _ hb4,?_,hge,hlt⟩,by simp [World.cell?,hb4],by simp [World.cell?,hb4],frozen_of_row _ _ 1 _ _ hb4⟩
 ·rw [heap_setCell_other _ _ _ _ (show r ≠ g by omega)]; exact hr4
 ·rw [Zfm,List.length_append]
  exact ownsRow_setCell_other hown (fun e => by have := (World.ownsRow.lt hown _ e).1; simp at this; omega) _
theorem NMakeW.turn {xs2 : List Pi} (h : NMakeW w wr r g N lv xs) (e : xs = xs2) : NMakeW w wr r g N lv xs2 := e ▸ h
end Go.Proofs.YtfkommjlmolniaaGreatDoor
end
