/- Joined: Graph, Check, MakeW, Next, Walk, NearT, WalkF, WaysT. -/
import Derived.Test.YtfkommjlmolniaaGreatDoorRows
import Derived.Test.YtfkommjlmolniaaGreatDoorHd1
import Derived.Laws.Rows
import Derived.Deep.Slices
import Derived.Deep.Draws
import Derived.Lib.Hide
import Derived.Deep.RegionWith
import Derived.OneCell
import Derived.Deep.RegionHeld3
import Derived.Test.YtfkommjlmolniaaGreatDoorHd2
set_option linter.unusedVariables false
section

namespace Go.Proofs.YtfkommjlmolniaaGreatDoor
open Go.RowKit
abbrev Ar := Int × Int × Int
def encA (x : Ar) : List Value := [.int .i64 x.1,.int .i64 x.2.1,.int .i64 x.2.2]
def ArRow (w : World) (b off : Nat) (l : List Ar) : Prop := ∀ (k : Nat) (x : Ar),l[k]? = some x →
 w.cell? ⟨b,off + k * 3,none⟩ = some (.int .i64 x.1) ∧ w.cell? ⟨b,off + k * 3 + 1,none⟩ = some (.int .i64 x.2.1) ∧ w.cell? ⟨b,off + k * 3 + 2,none⟩ = some (.int .i64 x.2.2)
def IsArcs (B : Nat) (w : World) (a : Option Addr) (len : Nat) (l : List Ar) : Prop := l.length = len ∧ (len = 0 ∨ ∃ b off,a = some ⟨b,off,none⟩ ∧ b < B ∧ ArRow w b off l)
variable {w wr w2 : World} {a : Option Addr} {len cap B B2 g : Nat} {l : List Ar} {n : Int}
theorem ArRow.of_block {b off : Nat} (h : ArRow w b off l) (e : w2.heap[b]? = w.heap[b]?) : ArRow w2 b off l := fun k x hk => by
 obtain ⟨h1,h2,h3⟩ := h k x hk; exact ⟨(World.cell?_of_block (w := w) (by exact e)).trans h1,(World.cell?_of_block (w := w) (by exact e)).trans h2,(World.cell?_of_block (w := w) (by exact e)).trans h3⟩
theorem IsArcs.later (h : IsArcs B w a len l) (hb : Below B w w2) : IsArcs B w2 a len l := ⟨h.1,by
 rcases h.2 with h | ⟨b,off,e,h1,h2⟩
 ·exact .inl h
 ·exact .inr ⟨b,off,e,h1,h2.of_block (hb.block b h1)⟩⟩
theorem IsArcs.mono (h : IsArcs B w a len l) (hb : B ≤ B2) : IsArcs B2 w a len l := ⟨h.1,by
 rcases h.2 with h | ⟨b,off,e,h1,h2⟩
 ·exact .inl h
 ·exact .inr ⟨b,off,e,by omega,h2⟩⟩
theorem IsArcs.at_ (h : IsArcs B w a len l) {k : Nat} (hk : k < len) : ∃ b off x,a = some ⟨b,off,none⟩ ∧ b < B ∧ l[k]? = some x ∧
  w.cell? ⟨b,off + k * 3,none⟩ = some (.int .i64 x.1) ∧ w.cell? ⟨b,off + k * 3 + 1,none⟩ = some (.int .i64 x.2.1) ∧ w.cell? ⟨b,off + k * 3 + 2,none⟩ = some (.int .i64 x.2.2) := by
 obtain ⟨h1,h2⟩ := h; subst h1; rcases h2 with h2 | ⟨b,off,e,hb,hr⟩
 ·omega
 ·exact ⟨b,off,_,e,hb,List.getElem?_eq_getElem hk,hr k _ (List.getElem?_eq_getElem hk)⟩
structure Box (w wr : World) (g : Nat) (n : Int) (a : Option Addr) (len cap : Nat) : Prop where
 below : Below w.heap.size w wr
 ge : w.heap.size ≤ g
 blk : wr.heap[g]? = some (.cells #[.int .i64 n,.slice a len cap] 95 (0,0))
theorem Box.lt (h : Box w wr g n a len cap) : g < wr.heap.size := (Array.getElem?_eq_some_iff.1 h.blk).1
theorem Box.make (h : Below w.heap.size w wr) (n : Int) (a : Option Addr) (len cap : Nat) : Box w (wr.alloc (.cells #[.int .i64 n,.slice a len cap] 95)) wr.heap.size n a len cap :=
 ⟨h.alloc h.size _,h.size,heap_alloc_new _ _⟩
theorem Box.later (h : Box w wr g n a len cap) (hb : Below wr.heap.size wr w2) : Box w w2 g n a len cap :=
 ⟨h.below.trans (hb.mono h.below.size),h.ge,(hb.block g h.lt).trans h.blk⟩
theorem Box.alloc (h : Box w wr g n a len cap) (o : Obj) : Box w (wr.alloc o) g n a len cap := ⟨h.below.alloc h.below.size o,h.ge,(Below.heap_alloc _ _ _ h.lt).trans h.blk⟩
theorem Box.drewN (h : Box w wr g n a len cap) (m : Nat) : Box w (wr.drewN m) g n a len cap := ⟨Z03 h.below m,h.ge,h.blk⟩
theorem Box.set_ (h : Box w wr g n a len cap) {g2 : Nat} (hg : w.heap.size ≤ g2) (hne : g ≠ g2) (i : Nat) (v : Value) : Box w (wr.setCell ⟨g2,i,none⟩ v) g n a len cap :=
 ⟨h.below.setCell hg _,h.ge,by rw [heap_setCell_other _ _ _ _ hne]; exact h.blk⟩
theorem Box.c0 (h : Box w wr g n a len cap) : wr.cell? ⟨g,0,none⟩ = some (.int .i64 n) := by simp [World.cell?,h.blk]
theorem Box.c1 (h : Box w wr g n a len cap) : wr.cell? ⟨g,1,none⟩ = some (.slice a len cap) := by simp [World.cell?,h.blk]
theorem Box.arcs (h : Box w wr g n a len cap) (hl : IsArcs w.heap.size w a len l) : IsArcs w.heap.size wr a len l := hl.later h.below
theorem Box.arcsHere (h : Box w wr g n a len cap) (hl : IsArcs w.heap.size w a len l) : IsArcs wr.heap.size wr a len l := (hl.later h.below).mono h.below.size
/-! ### Has -/
def hasB (n i : Int) : Bool := decide (0 ≤ i ∧ i < n)
theorem hasB_true {n i : Int} : hasB n i = true ↔ 0 ≤ i ∧ i < n := by simp [hasB]
theorem hasB_false {n i : Int} : hasB n i = false ↔ ¬ (0 ≤ i ∧ i < n) := by simp [hasB]
theorem Z60 {p q : Bool} (h : p = q) : Ending.returned (.bool p) = .returned (.bool q) := by rw [h]
theorem Zd7 (n i : Int) (a : Option Addr) (len cap : Nat) (w : World) :
  Calls Tryz.prog 115 #[.agg #[.int .i64 n,.slice a len cap],.int .i64 i] w fun e w' => e = .returned (.bool (hasB n i)) ∧ Below w.heap.size w w' := by
 by_cases h1 : 0 ≤ i
 ·by_cases h2 : i < n
  ·go_enter Tryz.func115,Tryz.ntmps115
   go_wp2_with fail
   go_ret
   exact ⟨Z60 (hasB_true.2 ⟨h1,h2⟩).symm,(Below.refl _ _).alloc (Nat.le_refl _) _⟩
  ·go_enter Tryz.func115,Tryz.ntmps115
   go_wp2_with fail
   go_ret
   exact ⟨Z60 (hasB_false.2 (by omega)).symm,(Below.refl _ _).alloc (Nat.le_refl _) _⟩
 ·go_enter Tryz.func115,Tryz.ntmps115
  go_wp2_with fail
  go_ret
  exact ⟨Z60 (hasB_false.2 (by omega)).symm,(Below.refl _ _).alloc (Nat.le_refl _) _⟩
theorem Z3d {n i : Int} (h : 0 ≤ i ∧ i < n) (a : Option Addr) (len cap : Nat) (w : World) :
  Calls Tryz.prog 115 #[.agg #[.int .i64 n,.slice a len cap],.int .i64 i] w fun e w' => e = .returned (.bool true) ∧ Below w.heap.size w w' := by
 have := Zd7 n i a len cap w; rw [hasB_true.2 h] at this; exact this
theorem Zhq {n i : Int} (h : ¬ (0 ≤ i ∧ i < n)) (a : Option Addr) (len cap : Nat) (w : World) :
  Calls Tryz.prog 115 #[.agg #[.int .i64 n,.slice a len cap],.int .i64 i] w fun e w' => e = .returned (.bool false) ∧ Below w.heap.size w w' := by
 have := Zd7 n i a len cap w; rw [hasB_false.2 h] at this; exact this
end Go.Proofs.YtfkommjlmolniaaGreatDoor
end
section

namespace Go.Proofs.YtfkommjlmolniaaGreatDoor
set_option maxHeartbeats 16000000
set_option maxRecDepth 100000
open Go.Lib (hid)
open Go.RowKit
def okA (n : Int) (x : Ar) : Bool := hasB n x.1 && hasB n x.2.1 && decide (-1099511627776 ≤ x.2.2 ∧ x.2.2 ≤ 1099511627776)
def Z15 (n : Int) (l : List Ar) : Int := if n < 0 ∨ 1000 < n ∨ 20000 < l.length then 4 else if l.all (okA n) then 0 else 2
variable {w wr w2 : World} {a : Option Addr} {len cap B g : Nat} {l : List Ar} {n : Int} {k : Nat} {x : Ar}
theorem okA_true : okA n x = true ↔ (0 ≤ x.1 ∧ x.1 < n) ∧ (0 ≤ x.2.1 ∧ x.2.1 < n) ∧ -1099511627776 ≤ x.2.2 ∧ x.2.2 ≤ 1099511627776 := by
 simp [okA,hasB,and_assoc]
theorem Zbs (h : n < 0 ∨ 1000 < n ∨ 20000 < l.length) : Z15 n l = 4 := by rw [Z15,if_pos h]
theorem Z3m (h : ¬ (n < 0 ∨ 1000 < n ∨ 20000 < l.length)) (hx : l[k]? = some x) (hb : okA n x = false) : Z15 n l = 2 := by
 rw [Z15,if_neg h,if_neg]; intro h2; have := List.all_eq_true.1 h2 x (List.mem_of_getElem? hx); rw [hb] at this; cases this
theorem Zbt (h : ¬ (n < 0 ∨ 1000 < n ∨ 20000 < l.length)) (hx : (l.take k).all (okA n) = true) (hk : l.length ≤ k) : Z15 n l = 0 := by
 rw [Z15,if_neg h,if_pos]; rwa [List.take_of_length_le hk] at hx
theorem checkV_zero : Z15 n l = 0 ↔ (0 ≤ n ∧ n ≤ 1000 ∧ l.length ≤ 20000) ∧ ∀ x ∈ l,okA n x = true := by
 unfold Z15; by_cases h : n < 0 ∨ 1000 < n ∨ 20000 < l.length
 ·rw [if_pos h]
  constructor
  ·intro h; cases h
  ·intro h2; omega
 ·rw [if_neg h]
  by_cases h2 : l.all (okA n) = true
  ·rw [if_pos h2]
   exact ⟨fun _ => ⟨by omega,List.all_eq_true.1 h2⟩,fun _ => rfl⟩
  ·rw [if_neg h2]
   constructor
   ·intro h; cases h
   ·intro h3; exact absurd (List.all_eq_true.2 h3.2) h2
theorem Zka (hx : l[k]? = some x) (h : (l.take k).all (okA n) = true) (hb : okA n x = true) : (l.take (k + 1)).all (okA n) = true := by
 rw [List.take_add_one,hx,List.all_append,h]; simp [hb]
theorem Z5x {p q : Int} (h : p = q) : Ending.returned (.int .i64 p) = .returned (.int .i64 q) := by rw [h]
theorem Zet (hs : n < 0 ∨ 1000 < n ∨ (20000 : Int) < (len : Int)) (cap : Nat) (a : Option Addr) (w : World) :
  Calls Tryz.prog 114 #[.agg #[.int .i64 n,.slice a len cap]] w fun e w' => e = .returned (.int .i64 4) ∧ Below w.heap.size w w' := by
 by_cases h1 : n < 0
 ·clear hs
  go_enter Tryz.func114,Tryz.ntmps114
  go_wp2_with fail
  go_ret
  exact ⟨rfl,(Below.refl _ _).alloc (Nat.le_refl _) _⟩
 ·by_cases h2 : 1000 < n
  ·clear hs
   go_enter Tryz.func114,Tryz.ntmps114
   go_wp2_with fail
   go_ret
   exact ⟨rfl,(Below.refl _ _).alloc (Nat.le_refl _) _⟩
  ·have h3 : (20000 : Int) < (len : Int) := by omega
   clear hs; go_enter Tryz.func114,Tryz.ntmps114
   go_wp2_with fail
   go_ret
   exact ⟨rfl,(Below.refl _ _).alloc (Nat.le_refl _) _⟩
structure Arc1 (w wr : World) (g ab : Nat) (n : Int) (a : Option Addr) (len cap : Nat) (x : Ar) : Prop where
 box : Box w wr g n a len cap
 ge : w.heap.size ≤ ab
 blk : wr.heap[ab]? = some (.cells #[.int .i64 x.1,.int .i64 x.2.1,.int .i64 x.2.2] 121 (0,0))
theorem Arc1.make (h : Box w wr g n a len cap) (x : Ar) : Arc1 w (wr.alloc (.cells #[.int .i64 x.1,.int .i64 x.2.1,.int .i64 x.2.2] 121)) g wr.heap.size n a len cap x :=
 ⟨h.alloc _,h.below.size,heap_alloc_new _ _⟩
theorem Arc1.later {ab : Nat} (h : Arc1 w wr g ab n a len cap x) (hb : Below wr.heap.size wr w2) : Arc1 w w2 g ab n a len cap x :=
 ⟨h.box.later hb,h.ge,(hb.block ab (Array.getElem?_eq_some_iff.1 h.blk).1).trans h.blk⟩
theorem Arc1.d0 {ab : Nat} (h : Arc1 w wr g ab n a len cap x) : wr.cell? ⟨ab,0,none⟩ = some (.int .i64 x.1) := by simp [World.cell?,h.blk]
theorem Arc1.d1 {ab : Nat} (h : Arc1 w wr g ab n a len cap x) : wr.cell? ⟨ab,1,none⟩ = some (.int .i64 x.2.1) := by simp [World.cell?,h.blk]
theorem Arc1.d2 {ab : Nat} (h : Arc1 w wr g ab n a len cap x) : wr.cell? ⟨ab,2,none⟩ = some (.int .i64 x.2.2) := by simp [World.cell?,h.blk]
theorem Zeu (hs : ¬ (n < 0 ∨ 1000 < n ∨ (20000 : Int) < (len : Int))) (cap : Nat) (a : Option Addr) (w : World) (hl : IsArcs w.heap.size w a len l) :
  Calls Tryz.prog 114 #[.agg #[.int .i64 n,.slice a len cap]] w fun e w' => e = .returned (.int .i64 (Z15 n l)) ∧ Below w.heap.size w w' := by
 have HS : Hid (¬ (n < 0 ∨ 1000 < n ∨ 20000 < l.length)) := hid (by have := hl.1; omega)
 have h1 : ¬ n < 0 := by omega
 have h2 : ¬ 1000 < n := by omega
 have h3 : ¬ (20000 : Int) < (len : Int) := by omega
 clear hs; have HL := hid hl; clear hl; have HG0 := hid (Box.make (Below.refl _ w) n a len cap); go_enter Tryz.func114,Tryz.ntmps114
 go_wp2_with fail
 go_loopw [22] (fun i wr => ∃ k : Nat,i = .int .i64 k ∧ k ≤ len ∧ Hid (Box w wr w.heap.size n a len cap) ∧ Hid ((l.take k).all (okA n) = true)) (fun i _ => len - (intOf i).toNat)
 case atStart => exact ⟨0,rfl,Nat.zero_le _,HG0,hid rfl⟩
 case round =>
  obtain ⟨k,rfl,hk,HG,HK⟩ := hrel; clear HG0; by_cases hlt : k < len
  ·obtain ⟨b,off,x,rfl,hb,hx,e0,e1,e2⟩ := (HG.out.arcs HL.out).at_ hlt
   have HX := hid hx; clear hx hb; have HA0 := hid (Arc1.make HG.out x); obtain ⟨f,t,c⟩ := x; simp only at e0 e1 e2
   have b0 := (HG.out.alloc (.cells #[.int .i64 f,.int .i64 t,.int .i64 c] 121)).c0; have b1 := (HG.out.alloc (.cells #[.int .i64 f,.int .i64 t,.int .i64 c] 121)).c1; by_cases hf : 0 ≤ f ∧ f < n
   ·by_cases ht : 0 ≤ t ∧ t < n
    ·have HF := hid hf
     have HT := hid ht; clear hf ht; by_cases hc1 : c < -1099511627776
     ·have HV := hid (Z3m HS.out HX.out (by simp [okA,hasB]; intros; omega))
      go_wp2_with (first
       | (go_at_call_of 115 (Value.int .i64 f); refine (Z3d HF.out _ _ _ _).mono ?_; rintro e w2 ⟨rfl,hb2⟩; have HA2 := hid (HA0.out.later hb2); have x0 := HA2.out.box.c0; have x1 := HA2.out.box.c1; have x2 := HA2.out.d1; clear hb2)
       | (go_at_call 115; refine (Z3d HT.out _ _ _ _).mono ?_; rintro e w3 ⟨rfl,hb3⟩; have HA3 := hid (HA2.out.later hb3); have y2 := HA3.out.d2; clear hb3))
      go_ret
      exact ⟨Z5x HV.out.symm,HA3.out.box.below⟩
     ·by_cases hc2 : 1099511627776 < c
      ·have HV := hid (Z3m HS.out HX.out (by simp [okA,hasB]; intros; omega))
       go_wp2_with (first
        | (go_at_call_of 115 (Value.int .i64 f); refine (Z3d HF.out _ _ _ _).mono ?_; rintro e w2 ⟨rfl,hb2⟩; have HA2 := hid (HA0.out.later hb2); have x0 := HA2.out.box.c0; have x1 := HA2.out.box.c1; have x2 := HA2.out.d1; clear hb2)
        | (go_at_call 115; refine (Z3d HT.out _ _ _ _).mono ?_; rintro e w3 ⟨rfl,hb3⟩; have HA3 := hid (HA2.out.later hb3); have y2 := HA3.out.d2; clear hb3))
       go_ret
       exact ⟨Z5x HV.out.symm,HA3.out.box.below⟩
      ·have HN := hid (Zka HX.out HK.out (okA_true.2 ⟨HF.out,HT.out,by simp only; omega,by simp only; omega⟩))
       go_wp2_with (first
        | (go_at_call_of 115 (Value.int .i64 f); refine (Z3d HF.out _ _ _ _).mono ?_; rintro e w2 ⟨rfl,hb2⟩; have HA2 := hid (HA0.out.later hb2); have x0 := HA2.out.box.c0; have x1 := HA2.out.box.c1; have x2 := HA2.out.d1; clear hb2)
        | (go_at_call 115; refine (Z3d HT.out _ _ _ _).mono ?_; rintro e w3 ⟨rfl,hb3⟩; have HA3 := hid (HA2.out.later hb3); have y2 := HA3.out.d2; clear hb3))
       go_roundw
       case rel => exact ⟨k + 1,by go_num,by omega,hid HA3.out.box,HN⟩
       case measure => simp [intOf]; omega
    ·have HF := hid hf
     have HV := hid (Z3m HS.out HX.out (by simp [okA,hasB]; intros; omega))
     have HT := hid ht; clear hf ht; go_wp2_with (first
      | (go_at_call_of 115 (Value.int .i64 f); refine (Z3d HF.out _ _ _ _).mono ?_; rintro e w2 ⟨rfl,hb2⟩; have HA2 := hid (HA0.out.later hb2); have x0 := HA2.out.box.c0; have x1 := HA2.out.box.c1; have x2 := HA2.out.d1; clear hb2)
      | (go_at_call 115; refine (Zhq HT.out _ _ _ _).mono ?_; rintro e w3 ⟨rfl,hb3⟩; have HA3 := hid (HA2.out.later hb3); have y2 := HA3.out.d2; clear hb3))
     go_ret
     exact ⟨Z5x HV.out.symm,HA3.out.box.below⟩
   ·have HV := hid (Z3m HS.out HX.out (by simp [okA,hasB]; intros; omega))
    have HF := hid hf; clear hf; go_wp2_with (go_at_call_of 115 (Value.int .i64 f); refine (Zhq HF.out _ _ _ _).mono ?_; rintro e w2 ⟨rfl,hb2⟩; have HA2 := hid (HA0.out.later hb2); have x0 := HA2.out.box.c0; have x1 := HA2.out.box.c1; have x2 := HA2.out.d1; clear hb2)
    go_ret
    exact ⟨Z5x HV.out.symm,HA2.out.box.below⟩
  ·have HV := hid (Zbt HS.out HK.out (by have := HL.out.1; omega))
   go_wp2_with fail
   go_ret
   exact ⟨Z5x HV.out.symm,HG.out.below⟩
theorem Z4r (n : Int) (cap : Nat) (a : Option Addr) (w : World) (hl : IsArcs w.heap.size w a len l) :
  Calls Tryz.prog 114 #[.agg #[.int .i64 n,.slice a len cap]] w fun e w' => e = .returned (.int .i64 (Z15 n l)) ∧ Below w.heap.size w w' := by
 by_cases hs : n < 0 ∨ 1000 < n ∨ (20000 : Int) < (len : Int)
 ·rw [Zbs (by have := hl.1; omega)]
  exact Zet hs cap a w
 ·exact Zeu hs cap a w hl
end Go.Proofs.YtfkommjlmolniaaGreatDoor
end
section

namespace Go.Proofs.YtfkommjlmolniaaGreatDoor
open Go.RowKit
variable {w wr w2 w4 : World} {a : Option Addr} {len cap B B2 g r g' cap' k : Nat} {l xs : List Ar} {N : Int} {x y : Ar} {lv : Value} {o : Obj}
def flatA (l : List Ar) : List Value := l.flatMap encA
theorem Zfp (l : List Ar) (x : Ar) : flatA (l ++ [x]) = flatA l ++ encA x := by simp [flatA]
theorem Zam : ∀ (l : List Ar) (k : Nat) (x : Ar),l[k]? = some x → (flatA l)[k * 3]? = some (.int .i64 x.1) ∧ (flatA l)[k * 3 + 1]? = some (.int .i64 x.2.1) ∧ (flatA l)[k * 3 + 2]? = some (.int .i64 x.2.2)
 | [],k,x,h => by simp at h
 | y :: r,0,x,h => by
  simp at h
  subst h; exact ⟨rfl,rfl,rfl⟩
 | y :: r,k + 1,x,h => by
  have ih := Zam r k x (by simpa using h)
  unfold flatA at ih ⊢; rw [List.flatMap_cons]; have e1 : (k + 1) * 3 = (k * 3) + 1 + 1 + 1 := by omega
  rw [e1]; exact ih
theorem Z67 {n : Nat} (h : w.ownsRow B 121 3 (.slice a n cap) xs.length (flatA xs)) : n = xs.length ∧ IsArcs w.heap.size w a n xs := by
 rcases h.2 with ⟨e,h0⟩ | ⟨g,cap',cur,hv,hb,hg,_⟩
 ·injection e with _ e2 _
  subst e2; exact ⟨by omega,by omega,.inl rfl⟩
 ·have hh := h
  injection hv with e1 e2 e3
  subst e1 e2 e3; refine ⟨rfl,rfl,.inr ⟨g,0,rfl,(Array.getElem?_eq_some_iff.1 hg).1,fun k x hk => ?_⟩⟩; obtain ⟨q0,q1,q2⟩ := Zam xs k x hk; have c0 := World.ownsRow.cells hh (g := g) rfl _ _ q0; have c1 := World.ownsRow.cells hh (g := g) rfl _ _ q1; have c2 := World.ownsRow.cells hh (g := g) rfl _ _ q2; simp only [Addr.add_lit,Nat.zero_add] at c0 c1 c2
  simp only [Nat.zero_add]
  exact ⟨c0,c1,c2⟩
structure MakeW (w wr : World) (r g : Nat) (N : Int) (lv : Value) (xs : List Ar) : Prop where
 below : Below w.heap.size w wr
 res : wr.heap[r]? = some (.cells #[.int .i64 0,.slice none 0 0] 95 (0,0))
 blk : wr.heap[g]? = some (.cells #[.int .i64 N,lv] 95 (0,0))
 row : wr.ownsRow (g + 1) 121 3 lv xs.length (flatA xs)
 ge : w.heap.size ≤ r
 lt : r < g
theorem MakeW.ltg (h : MakeW w wr r g N lv xs) : g < wr.heap.size := (Array.getElem?_eq_some_iff.1 h.blk).1
theorem MakeW.later (h : MakeW w wr r g N lv xs) (hb : Below wr.heap.size wr w2) : MakeW w w2 r g N lv xs :=
 ⟨h.below.trans (hb.mono h.below.size),(hb.block r (by have := h.ltg; have := h.lt; omega)).trans h.res,(hb.block g h.ltg).trans h.blk,Z06 h.row hb,h.ge,h.lt⟩
theorem MakeW.c0 (h : MakeW w wr r g N lv xs) : wr.cell? ⟨g,0,none⟩ = some (.int .i64 N) := by simp [World.cell?,h.blk]
theorem MakeW.c1 (h : MakeW w wr r g N lv xs) : wr.cell? ⟨g,1,none⟩ = some lv := by simp [World.cell?,h.blk]
theorem MakeW.push (h : MakeW w wr r g N lv xs) (hown : w4.ownsRow (g + 1) 121 3 (.slice (some ⟨g',0,none⟩) (xs.length + 1) cap') (xs.length + 1) (flatA xs ++ encA y)) (hgrow : wr.grownBy w4 lv.ownBlock) :
  MakeW w (w4.setCell ⟨g,1,none⟩ (.slice (some ⟨g',0,none⟩) (xs.length + 1) cap')) r g N (.slice (some ⟨g',0,none⟩) (xs.length + 1) cap') (xs ++ [y]) ∧
  w4.cell? ⟨g,0,none⟩ = some (.int .i64 N) ∧ w4.cell? ⟨g,1,none⟩ = some lv ∧ w4.frozen? ⟨g,1,none⟩ = false := by
 have hm : Mod (fun k => lv.ownBlock = some k) wr w4 := (Mod.refl _ wr).grown hgrow (fun k hk => .inr hk); have hC : ∀ k,lv.ownBlock = some k → g + 1 ≤ k := fun k hk => (World.ownsRow.lt h.row k hk).1; have hge := h.ge; have hlt := h.lt; have hb4 : w4.heap[g]? = some (.cells #[.int .i64 N,lv] 95 (0,0)) := (hm.block g h.ltg (fun e => by have := hC _ e; omega)).trans h.blk
 have hr4 : w4.heap[r]? = some (.cells #[.int .i64 0,.slice none 0 0] 95 (0,0)) := (hm.block r (by have := h.ltg; omega) (fun e => by have := hC _ e; omega)).trans h.res
 have hbe : Below w.heap.size w w4 := ((Mod.of_below (fun k => lv.ownBlock = some k) h.below).trans hm).below (Nat.le_refl _) (fun k hk => by have := hC k hk; omega)
 refine ⟨⟨hbe.setCell (show w.heap.size ≤ g by omega) _,?_,heap_setCell_same _ _ _ _ _ _ hb4,?_,hge,hlt⟩,by simp [World.cell?,hb4],by simp [World.cell?,hb4],frozen_of_row _ _ 1 _ _ hb4⟩
 ·rw [heap_setCell_other _ _ _ _ (show r ≠ g by omega)]; exact hr4
 ·rw [Zfp,List.length_append]
  exact ownsRow_setCell_other hown (fun e => by have := (World.ownsRow.lt hown _ e).1; simp at this; omega) _
theorem MakeW.turn {xs2 : List Ar} (h : MakeW w wr r g N lv xs) (e : xs = xs2) : MakeW w wr r g N lv xs2 := e ▸ h
theorem Zl6 : (Tryz.prog.info? 121).map (fun i => (i.zero,i.size,i.bytes)) = some (some (.agg #[.int .i64 0,.int .i64 0,.int .i64 0]),3,24) := by kernel_rfl
theorem Z7m : (Tryz.prog.info? 95).map (fun i => i.size) = some 2 := by kernel_rfl
theorem Z8n (w : World) (y : Ar) (T : TypeId) (z : Nat) (hz : w.heap.size = z) : ∀ (j : Nat) (u : Value),(encA y)[j]? = some u → (w.alloc (.cells #[.int .i64 y.1,.int .i64 y.2.1,.int .i64 y.2.2] T)).cell? ((⟨z,0,none⟩ : Addr).add j) = some u := by
 subst hz; intro j u hj; rw [Addr.add_lit]; match j,hj with
 | 0,hj => simp [encA] at hj; subst hj; simp
 | 1,hj => simp [encA] at hj; subst hj; simp
 | 2,hj => simp [encA] at hj; subst hj; simp
theorem oneA (y : Ar) : ∀ u ∈ encA y,u.oneCell' = true := by
 intro u hu; simp [encA] at hu
 rcases hu with rfl | rfl | rfl <;> rfl
theorem MakeW.done (h : MakeW w wr r g N lv xs) :
  ((wr.setCell ⟨r,0,none⟩ (.int .i64 N)).setCell ⟨r,1,none⟩ lv).heap[r]? = some (.cells #[.int .i64 N,lv] 95 (0,0)) ∧
  ((wr.setCell ⟨r,0,none⟩ (.int .i64 N)).setCell ⟨r,1,none⟩ lv).ownsRow w.heap.size 121 3 lv xs.length (flatA xs) ∧
  Below w.heap.size w ((wr.setCell ⟨r,0,none⟩ (.int .i64 N)).setCell ⟨r,1,none⟩ lv) := by
 have h1 := h.ge; have h2 := h.lt; have hm : Mod (fun b => b = r) wr ((wr.setCell ⟨r,0,none⟩ (.int .i64 N)).setCell ⟨r,1,none⟩ lv) :=
  ((Mod.refl (fun b => b = r) wr).setCell (p := ⟨r,0,none⟩) (.inr rfl) _).setCell (p := ⟨r,1,none⟩) (.inr rfl) _
 exact ⟨heap_setCell_same _ _ _ _ _ _ (heap_setCell_same _ _ _ _ _ _ h.res),Z1y (Z1a h.row hm (fun k hk => by have := (World.ownsRow.lt h.row k hk).1; omega)) (by omega),
  ((Mod.of_below (fun b => b = r) h.below).trans hm).below (Nat.le_refl _) (fun k hk => by omega)⟩
end Go.Proofs.YtfkommjlmolniaaGreatDoor
end
section

namespace Go.Proofs.YtfkommjlmolniaaGreatDoor
open Go.RowKit
variable {w wr w2 w4 : World} {a : Option Addr} {len cap B g L N g' cap' f : Nat} {l : List Ar} {n t : Int} {V : Nat → Value} {R : Nat → List Int} {o : Obj}
theorem Zid : (Tryz.prog.info? 3).map (fun i => (i.zero,i.size,i.bytes)) = some (some (.int .i64 0),1,8) := by kernel_rfl
theorem Zl7 : (Tryz.prog.info? 37).map (fun i => (i.zero,i.size,i.bytes)) = some (some (.slice none 0 0),1,24) := by kernel_rfl
theorem Zl8 : (Tryz.prog.info? 4).map (fun i => (i.zero,i.size,i.bytes)) = some (some (.bool false),1,1) := by kernel_rfl
theorem Zao {A C : List Int} {i f : Nat} {t : Int} {D : List Int} (h : C = if (f : Int) = (i : Int) then A ++ [t] else A) (hD : i = f → D = A) : (if i = f then D ++ [t] else A) = C := by
 rw [h]; by_cases e : i = f
 ·rw [if_pos e,if_pos (by omega),hD e]
 ·rw [if_neg e,if_neg (by omega)]
end Go.Proofs.YtfkommjlmolniaaGreatDoor
end
section

namespace Go.Proofs.YtfkommjlmolniaaGreatDoor
inductive Walk (l : List Ar) (s : Nat) : Nat → Nat → Int → Prop
 | nil : Walk l s s 0 0
 | snoc {i j k : Nat} {d : Int} {x : Ar} (h : Walk l s i k d) (hx : x ∈ l) (h1 : x.1 = (i : Int)) (h2 : x.2.1 = (j : Int)) : Walk l s j (k + 1) (d + x.2.2)
variable {l l2 : List Ar} {s i j k m N : Nat} {d e : Int} {x : Ar}
theorem Walk.turn (h : Walk l s i k d) (hk : k = m) (hd : d = e) : Walk l s i m e := by subst hk hd; exact h
theorem Walk.append (h : Walk l s i k d) (h2 : Walk l i j m e) : Walk l s j (k + m) (d + e) := by
 induction h2 with
 | nil => exact h.turn (by omega) (by omega)
 | snoc _ hx h1 h2 ih => exact (ih.snoc hx h1 h2).turn (by omega) (by omega)
theorem Walk.one (hx : x ∈ l) (h1 : x.1 = (i : Int)) (h2 : x.2.1 = (j : Int)) : Walk l i j 1 x.2.2 := (Walk.nil.snoc hx h1 h2).turn (by omega) (by omega)
theorem Walk.sub (h : Walk l s i k d) (hs : ∀ x ∈ l,x ∈ l2) : Walk l2 s i k d := by
 induction h with
 | nil => exact .nil
 | snoc _ hx h1 h2 ih => exact ih.snoc (hs _ hx) h1 h2
theorem Walk.lt (hok : ∀ x ∈ l,okA (N : Int) x = true) (hs : s < N) (h : Walk l s i k d) : i < N := by
 induction h with
 | nil => exact hs
 | snoc _ hx h1 h2 ih =>
  have := okA_true.1 (hok _ hx); omega
theorem Walk.bound {W : Int} (hW : ∀ x ∈ l,-W ≤ x.2.2 ∧ x.2.2 ≤ W) (h : Walk l s i k d) : -((k : Int) * W) ≤ d ∧ d ≤ (k : Int) * W := by
 induction h with
 | nil => simp
 | snoc _ hx h1 h2 ih =>
  rename_i k d x _
  have := hW x hx; have e : ((k + 1 : Nat) : Int) * W = (k : Int) * W + W := by rw [Int.natCast_add,Int.add_mul]; simp
  omega
def Neg (l : List Ar) (s : Nat) : Prop := ∃ i k d m e,Walk l s i k d ∧ Walk l i i m e ∧ e < 0
theorem Neg.intro (h : Walk l s i k d) (h2 : Walk l i i m e) (he : e < 0) : Neg l s := ⟨i,k,d,m,e,h,h2,he⟩
/-! ### Two of more places than there are nodes are the same -/
theorem Zmg : ∀ (n : Nat) (f : Nat → Nat),(∀ t,t ≤ n → f t < n) → ∃ a b,a < b ∧ b ≤ n ∧ f a = f b
 | 0,f,h => absurd (h 0 (Nat.le_refl 0)) (by omega)
 | n + 1,f,h => by
  by_cases hex : ∃ a,a ≤ n ∧ f a = f (n + 1)
  ·obtain ⟨a,ha,he⟩ := hex
   exact ⟨a,n + 1,by omega,Nat.le_refl _,he⟩
  ·have hne : ∀ a,a ≤ n → f a ≠ f (n + 1) := fun a ha he => hex ⟨a,ha,he⟩
   have hv := h (n + 1) (Nat.le_refl _); obtain ⟨a,b,hab,hb,he⟩ := Zmg n (fun t => if f t = n then f (n + 1) else f t) (fun t ht => by
    have h1 := h t (by omega)
    have h2 := hne t ht; show (if f t = n then f (n + 1) else f t) < n
    by_cases e : f t = n
    ·rw [if_pos e]; omega
    ·rw [if_neg e]; omega)
   refine ⟨a,b,hab,by omega,?_⟩
   have ha1 := hne a (by omega)
   have hb1 := hne b hb; by_cases e1 : f a = n
   ·by_cases e2 : f b = n
    ·omega
    ·rw [if_pos e1,if_neg e2] at he; exact absurd he.symm hb1
   ·by_cases e2 : f b = n
    ·rw [if_neg e1,if_pos e2] at he; exact absurd he ha1
    ·rw [if_neg e1,if_neg e2] at he; exact he
theorem Walk.trace (h : Walk l s i k d) : ∃ (v : Nat → Nat) (D : Nat → Int),v 0 = s ∧ v k = i ∧ D 0 = 0 ∧ D k = d ∧ ∀ a b,a ≤ b → b ≤ k → Walk l (v a) (v b) (b - a) (D b - D a) := by
 induction h with
 | nil => exact ⟨fun _ => s,fun _ => 0,rfl,rfl,rfl,rfl,fun a b _ h2 => Walk.nil.turn (by omega) (by simp)⟩
 | snoc _ hx h1 h2 ih =>
  rename_i i j k d x _
  obtain ⟨v,D,v0,vk,D0,Dk,hw⟩ := ih; refine ⟨fun t => if t ≤ k then v t else j,fun t => if t ≤ k then D t else d + x.2.2,by simp [v0],if_neg (by omega),by simp [D0],if_neg (by omega),fun a b hab hb => ?_⟩
  by_cases hb2 : b ≤ k
  ·simp only [hb2,if_true,show a ≤ k by omega]
   exact hw a b hab hb2
  ·have hbk : b = k + 1 := by omega
   subst hbk; by_cases ha : a ≤ k
   ·simp only [ha,if_true,hb2,if_false]
    have := hw a k ha (Nat.le_refl _); rw [vk,Dk] at this; exact (this.snoc hx h1 h2).turn (by omega) (by omega)
   ·simp only [ha,if_false,hb2]
    exact Walk.nil.turn (by omega) (by omega)
theorem Walk.short (hok : ∀ x ∈ l,okA (N : Int) x = true) (hs : s < N) (hn : ¬ Neg l s) : ∀ (k : Nat) {i : Nat} {d : Int},Walk l s i k d → ∃ k' d',k' < N ∧ d' ≤ d ∧ Walk l s i k' d' := by
 intro k; induction k using Nat.strongRecOn with
 | _ k ih =>
  intro i d h; by_cases hk : k < N
  ·exact ⟨k,d,hk,Int.le_refl _,h⟩
  ·obtain ⟨v,D,v0,vk,D0,Dk,hw⟩ := h.trace
   have hin : ∀ t,t ≤ N → v t < N := fun t ht => by
    have := hw 0 t (by omega) (by omega)
    rw [v0] at this; exact this.lt hok hs
   obtain ⟨a,b,hab,hb,he⟩ := Zmg N v hin; have w1 := hw 0 a (by omega) (by omega)
   have w2 := hw a b (by omega) (by omega)
   have w3 := hw b k (by omega) (by omega)
   rw [v0] at w1; rw [← he] at w2 w3; rw [vk] at w3; have hc : ¬ D b - D a < 0 := fun hlt => hn (Neg.intro w1 w2 hlt); obtain ⟨k',d',h1,h2,h3⟩ := ih (a - 0 + (k - b)) (by omega) (w1.append w3)
   exact ⟨k',d',h1,by omega,h3⟩
/-! ### How far the nodes are -/
structure Dist (l : List Ar) (s : Nat) (far : Nat → Option Int) : Prop where
 att : ∀ i d,far i = some d → ∃ k,Walk l s i k d
 low : ∀ i k d,Walk l s i k d → ∃ d',far i = some d' ∧ d' ≤ d
variable {far far2 now next : Nat → Option Int}
theorem Dist.not_neg (h : Dist l s far) : ¬ Neg l s := by
 rintro ⟨i,k,d,m,e,h1,h2,h3⟩; obtain ⟨d1,e1,_⟩ := h.low i k d h1; obtain ⟨k2,hw⟩ := h.att i d1 e1; obtain ⟨d2,e2,h4⟩ := h.low i _ _ (hw.append h2); rw [e1] at e2; cases e2
 omega
theorem Dist.unique (h : Dist l s far) (h2 : Dist l s far2) (i : Nat) : far i = far2 i := by
 cases e1 : far i with
 | none =>
  cases e2 : far2 i with
  | none => rfl
  | some d =>
   obtain ⟨k,hw⟩ := h2.att i d e2; obtain ⟨d',e3,_⟩ := h.low i k d hw; rw [e1] at e3; cases e3
 | some d =>
  obtain ⟨k,hw⟩ := h.att i d e1; obtain ⟨d',e2,h3⟩ := h2.low i k d hw; obtain ⟨k2,hw2⟩ := h2.att i d' e2; obtain ⟨d'',e3,h4⟩ := h.low i k2 d' hw2; rw [e1] at e3; cases e3
  rw [e2,show d = d' by omega]
theorem Dist.start (h : Dist l s far) : far s = some 0 := by
 obtain ⟨d,e,hd⟩ := h.low s 0 0 .nil; obtain ⟨k,hw⟩ := h.att s d e; have hn := h.not_neg; have : ¬ d < 0 := fun hlt => hn (Neg.intro .nil hw hlt); rw [e,show d = 0 by omega]
def Fixed (l : List Ar) (far : Nat → Option Int) : Prop := ∀ x ∈ l,∀ i j : Nat,x.1 = (i : Int) → x.2.1 = (j : Int) → ∀ d,far i = some d → ∃ d',far j = some d' ∧ d' ≤ d + x.2.2
theorem Dist.of_fixed (ha : ∀ i d,far i = some d → ∃ k,Walk l s i k d) (h0 : ∃ d,far s = some d ∧ d ≤ 0) (hf : Fixed l far) : Dist l s far := by
 refine ⟨ha,fun i k d h => ?_⟩; induction h with
 | nil => exact h0
 | snoc _ hx h1 h2 ih =>
  obtain ⟨d1,e1,h3⟩ := ih; obtain ⟨d2,e2,h4⟩ := hf _ hx _ _ h1 h2 d1 e1; exact ⟨d2,e2,by omega⟩
structure Near (l : List Ar) (s : Nat) (far : Nat → Option Int) (r : Nat) : Prop where
 att : ∀ i d,far i = some d → ∃ k,k ≤ r ∧ Walk l s i k d
 low : ∀ i k d,k ≤ r → Walk l s i k d → ∃ d',far i = some d' ∧ d' ≤ d
theorem Near.begin_ (l : List Ar) (s : Nat) : Near l s (fun i => if i = s then some 0 else none) 0 := by
 refine ⟨fun i d h => ?_,fun i k d hk h => ?_⟩
 ·by_cases e : i = s
  ·subst e
   simp at h
   subst h; exact ⟨0,Nat.le_refl _,.nil⟩
  ·simp [e] at h
 ·cases h with
  | nil => exact ⟨0,by simp,Int.le_refl _⟩
  | snoc _ _ _ _ => omega
theorem Near.same {r : Nat} (h : Near l s far r) (h2 : Near l s far2 (r + 1)) (he : ∀ i,far i = far2 i) : Dist l s far := by
 refine Dist.of_fixed (fun i d e => ?_) (h.low s 0 0 (by omega) .nil) (fun x hx i j h1 h3 d hd => ?_)
 ·obtain ⟨k,_,hw⟩ := h.att i d e
  exact ⟨k,hw⟩
 ·obtain ⟨k,hk,hw⟩ := h.att i d hd
  obtain ⟨d',e,h4⟩ := h2.low j _ _ (by omega) (hw.snoc hx h1 h3)
  exact ⟨d',by rw [he]; exact e,h4⟩
/-! ### One round over all arcs,out of what the round before told -/
end Go.Proofs.YtfkommjlmolniaaGreatDoor
end
section

namespace Go.Proofs.YtfkommjlmolniaaGreatDoor
variable {l : List Ar} {s N u t i j k q : Nat} {far : Nat → Option Int} {dn : Nat → Bool} {Q Q2 : List (Int × Int)} {d e : Int} {x : Ar} {y : Int × Int} {D D2 : Nat → Prop}
structure NearB (l : List Ar) (s N : Nat) (far : Nat → Option Int) (dn : Nat → Bool) (Q : List (Int × Int)) : Prop where
 real : ∀ i d,far i = some d → ∃ k,Walk l s i k d
 src : ∃ d,far s = some d ∧ d ≤ 0
 items : ∀ y ∈ Q,∃ (i : Nat) (d : Int),y.2 = (i : Int) ∧ i < N ∧ far i = some d ∧ d ≤ y.1
 has : ∀ i,i < N → dn i = false → ∀ d,far i = some d → (d,(i : Int)) ∈ Q
 mono : ∀ i d,dn i = true → far i = some d → ∀ y ∈ Q,d ≤ y.1
 fin : ∀ i,dn i = true → ∃ d,far i = some d
def Led (l : List Ar) (far : Nat → Option Int) (dn : Nat → Bool) (D : Nat → Prop) : Prop :=
 ∀ (k : Nat) (x : Ar) (i j : Nat) (d : Int),l[k]? = some x → x.1 = (i : Int) → x.2.1 = (j : Int) → dn i = true → D k → far i = some d → ∃ e,far j = some e ∧ e ≤ d + x.2.2
def LastN (far : Nat → Option Int) (dn : Nat → Bool) (d : Int) : Prop := ∀ i e,dn i = true → far i = some e → e ≤ d
theorem NearB.perm (h : NearB l s N far dn Q) (hp : Q.Perm Q2) : NearB l s N far dn Q2 :=
 ⟨h.real,h.src,fun y hy => h.items y (hp.mem_iff.2 hy),fun i hi hd d hf => hp.mem_iff.1 (h.has i hi hd d hf),fun i d hd hf y hy => h.mono i d hd hf y (hp.mem_iff.2 hy),h.fin⟩
theorem NearB.begin_ (hs : s < N) : NearB l s N (fun i => if i = s then some 0 else none) (fun _ => false) [(0,(s : Int))] := by
 refine ⟨fun i d h => ?_,⟨0,by simp,Int.le_refl _⟩,fun y hy => ?_,fun i _ _ d h => ?_,fun i d h => (by cases h),fun i h => (by cases h)⟩
 ·by_cases e : i = s
  ·subst e
   simp at h
   subst h; exact ⟨0,.nil⟩
  ·simp [e] at h
 ·simp at hy
  subst hy; exact ⟨s,0,rfl,hs,by simp,Int.le_refl _⟩
 ·by_cases e : i = s
  ·subst e
   simp at h
   subst h; simp
  ·simp [e] at h
theorem Led.begin_ : Led l far (fun _ => false) D := fun k x i j d _ _ _ h => by cases h
theorem NearB.skip (h : NearB l s N far dn (y :: Q)) (hy : y.2 = (i : Int)) (hd : dn i = true) : NearB l s N far dn Q :=
 ⟨h.real,h.src,fun z hz => h.items z (List.mem_cons_of_mem _ hz),fun j hj hn d hf => by
  rcases List.mem_cons.1 (h.has j hj hn d hf) with e | e
  ·have h2 : y.2 = (j : Int) := by rw [← e]
   have : i = j := by omega
   subst this; rw [hd] at hn; cases hn
  ·exact e,fun j d hj hf z hz => h.mono j d hj hf z (List.mem_cons_of_mem _ hz),h.fin⟩
theorem NearB.take_far (h : NearB l s N far dn (y :: Q)) (hl : ∀ z ∈ Q,y.1 ≤ z.1) (hy : y.2 = (i : Int)) (hd : dn i = false) : i < N ∧ far i = some y.1 := by
 obtain ⟨j,d,h1,h2,h3,h4⟩ := h.items y (List.mem_cons_self ..); have : i = j := by omega
 subst this; refine ⟨h2,?_⟩; rcases List.mem_cons.1 (h.has i h2 hd d h3) with e | e
 ·rw [← e]; exact h3
 ·have := hl _ e
  simp only at this
  have : d = y.1 := by omega
  rw [← this]; exact h3
def markN (dn : Nat → Bool) (u : Nat) : Nat → Bool := fun i => if i = u then true else dn i
theorem NearB.take_ (h : NearB l s N far dn (y :: Q)) (hl : ∀ z ∈ Q,y.1 ≤ z.1) (hy : y.2 = (i : Int)) (hd : dn i = false) : NearB l s N far (markN dn i) Q ∧ LastN far (markN dn i) y.1 := by
 obtain ⟨_,hf⟩ := h.take_far hl hy hd; refine ⟨⟨h.real,h.src,fun z hz => h.items z (List.mem_cons_of_mem _ hz),fun j hj hn d hfj => ?_,fun j d hj hfj z hz => ?_,fun j hj => ?_⟩,fun j e hj hfj => ?_⟩
 ·unfold markN at hn
  by_cases e : j = i
  ·simp [e] at hn
  ·rw [if_neg e] at hn
   rcases List.mem_cons.1 (h.has j hj hn d hfj) with e2 | e2
   ·have h2 : y.2 = (j : Int) := by rw [← e2]
    omega
   ·exact e2
 ·unfold markN at hj
  by_cases e : j = i
  ·subst e
   rw [hf] at hfj; injection hfj with hfj
   subst hfj; exact hl z hz
  ·rw [if_neg e] at hj
   exact h.mono j d hj hfj z (List.mem_cons_of_mem _ hz)
 ·unfold markN at hj
  by_cases e : j = i
  ·subst e; exact ⟨_,hf⟩
  ·rw [if_neg e] at hj; exact h.fin j hj
 ·unfold markN at hj
  by_cases e2 : j = i
  ·subst e2
   rw [hf] at hfj; injection hfj with hfj
   omega
  ·rw [if_neg e2] at hj
   exact h.mono j e hj hfj y (List.mem_cons_self ..)
theorem Led.mark (h : Led l far dn (fun _ => True)) (u : Nat) : Led l far (markN dn u) (fun k => ∀ x,l[k]? = some x → x.1 ≠ (u : Int)) := fun k x i j d hk h1 h2 hd hD hf => by
 unfold markN at hd; by_cases e : i = u
 ·subst e
  exact absurd h1 (hD x hk)
 ·rw [if_neg e] at hd
  exact h k x i j d hk h1 h2 hd trivial hf
theorem Led.sub (h : Led l far dn D) (hs : ∀ k,D2 k → D k) : Led l far dn D2 := fun k x i j d hk h1 h2 hd hD hf => h k x i j d hk h1 h2 hd (hs k hD) hf
theorem Led.no (h : Led l far dn D) (hq : l[q]? = some x) (h1 : x.1 = (u : Int)) (h2 : x.2.1 = (t : Int)) (hu : far u = some d) (he : far t = some e) (hle : e ≤ d + x.2.2) : Led l far dn (fun k => D k ∨ k = q) := fun k z i j d2 hk g1 g2 hd hD hf => by
 rcases hD with hD | hD
 ·exact h k z i j d2 hk g1 g2 hd hD hf
 ·subst hD
  rw [hq] at hk; injection hk with hk
  subst hk; have : i = u := by omega
  subst this; have : j = t := by omega
  subst this; rw [hu] at hf; injection hf with hf
  subst hf; exact ⟨e,he,hle⟩
def Z1o (far : Nat → Option Int) (t : Nat) (d : Int) : Nat → Option Int := fun i => if i = t then some d else far i
theorem Led.yes (h : Led l far dn D) (hq : l[q]? = some x) (h1 : x.1 = (u : Int)) (h2 : x.2.1 = (t : Int)) (hu : far u = some d) (hut : u ≠ t) (htd : dn t = false) (hlt : ∀ e,far t = some e → d + x.2.2 < e) : Led l (Z1o far t (d + x.2.2)) dn (fun k => D k ∨ k = q) := fun k z i j d2 hk g1 g2 hd hD hf => by
 have hit : i ≠ t := fun e => by subst e; rw [htd] at hd; cases hd
 unfold Z1o at hf; rw [if_neg hit] at hf; unfold Z1o; rcases hD with hD | hD
 ·obtain ⟨e,he,hle⟩ := h k z i j d2 hk g1 g2 hd hD hf
  by_cases ej : j = t
  ·subst ej
   have := hlt e he; exact ⟨d + x.2.2,by simp,by omega⟩
  ·exact ⟨e,by rw [if_neg ej]; exact he,hle⟩
 ·subst hD
  rw [hq] at hk; injection hk with hk
  subst hk; have : i = u := by omega
  subst this; have : j = t := by omega
  subst this; rw [hu] at hf; injection hf with hf
  subst hf; exact ⟨d + x.2.2,by simp,Int.le_refl _⟩
theorem NearB.yes (h : NearB l s N far dn Q) (hlast : LastN far dn d) (hq : l[q]? = some x) (hw : 0 ≤ x.2.2) (h1 : x.1 = (u : Int)) (h2 : x.2.1 = (t : Int)) (ht : t < N) (hu : far u = some d) (hlt : ∀ e,far t = some e → d + x.2.2 < e) :
  dn t = false ∧ NearB l s N (Z1o far t (d + x.2.2)) dn ((d + x.2.2,(t : Int)) :: Q) ∧ LastN (Z1o far t (d + x.2.2)) dn d := by
 have htd : dn t = false := by
  cases e : dn t with
  | false => rfl
  | true =>
   obtain ⟨e2,h3⟩ := h.fin t e; have := hlt e2 h3; have := hlast t e2 e h3; omega
 have hdt : ∀ i,dn i = true → i ≠ t := fun i hi e => by subst e; rw [htd] at hi; cases hi
 refine ⟨htd,⟨fun i e hf => ?_,?_,fun y hy => ?_,fun i hi hn e hf => ?_,fun i e hd hf y hy => ?_,fun i hi => ?_⟩,fun i e hd hf => ?_⟩
 ·unfold Z1o at hf
  by_cases ei : i = t
  ·subst ei
   rw [if_pos rfl] at hf; injection hf with hf
   obtain ⟨k,hk⟩ := h.real u d hu; exact ⟨k + 1,by rw [← hf]; exact hk.snoc (List.mem_of_getElem? hq) h1 h2⟩
  ·rw [if_neg ei] at hf
   exact h.real i e hf
 ·obtain ⟨e,he,hle⟩ := h.src
  unfold Z1o; by_cases es : s = t
  ·rw [if_pos es]
   rw [es] at he; have := hlt e he; exact ⟨_,rfl,by omega⟩
  ·rw [if_neg es]
   exact ⟨e,he,hle⟩
 ·rcases List.mem_cons.1 hy with e | e
  ·subst e
   exact ⟨t,d + x.2.2,rfl,ht,by simp [Z1o],Int.le_refl _⟩
  ·obtain ⟨i,e2,g1,g2,g3,g4⟩ := h.items y e
   by_cases ei : i = t
   ·subst ei
    have := hlt e2 g3; exact ⟨i,d + x.2.2,g1,g2,by simp [Z1o],by omega⟩
   ·exact ⟨i,e2,g1,g2,by simp [Z1o,ei]; exact g3,g4⟩
 ·unfold Z1o at hf
  by_cases ei : i = t
  ·subst ei
   rw [if_pos rfl] at hf; injection hf with hf
   subst hf; exact List.mem_cons_self ..
  ·rw [if_neg ei] at hf
   exact List.mem_cons_of_mem _ (h.has i hi hn e hf)
 ·unfold Z1o at hf
  rw [if_neg (hdt i hd)] at hf; rcases List.mem_cons.1 hy with e2 | e2
  ·subst e2
   have := hlast i e hd hf; simp only
   omega
  ·exact h.mono i e hd hf y e2
 ·obtain ⟨e,he⟩ := h.fin i hi
  exact ⟨e,by unfold Z1o; rw [if_neg (hdt i hi)]; exact he⟩
 ·unfold Z1o at hf
  rw [if_neg (hdt i hd)] at hf; exact hlast i e hd hf
theorem Led.all (h : Led l far dn D) (hD : ∀ k,k < l.length → D k) : Led l far dn (fun _ => True) := fun k x i j d hk h1 h2 hd _ hf => h k x i j d hk h1 h2 hd (hD k (List.getElem?_eq_some_iff.1 hk).1) hf
theorem NearB.least (h : NearB l s N far dn []) (hL : Led l far dn (fun _ => True)) (hok : ∀ x ∈ l,okA (N : Int) x = true) (hs : s < N) (hw : Walk l s i k d) : ∃ e,far i = some e ∧ e ≤ d := by
 induction hw with
 | nil => exact h.src
 | snoc hw hx h1 h2 ih =>
  rename_i i j k d x
  obtain ⟨e,he,hle⟩ := ih; have hi := hw.lt hok hs; have hd : dn i = true := by
   cases e2 : dn i with
   | true => rfl
   | false =>
    have := h.has i hi e2 e he; simp at this
  obtain ⟨q,hq⟩ := List.getElem?_of_mem hx; obtain ⟨e2,he2,hle2⟩ := hL q x i j e hq h1 h2 hd trivial he; exact ⟨e2,he2,by omega⟩
end Go.Proofs.YtfkommjlmolniaaGreatDoor
end
section

namespace Go.Proofs.YtfkommjlmolniaaGreatDoor
variable {l : List Ar} {W : Nat → Nat → Option Int} {s N i k m : Nat} {far : Nat → Option Int} {dn : Nat → Bool} {d c : Int}
structure ArcsOf (l : List Ar) (W : Nat → Nat → Option Int) : Prop where
 arc : ∀ x ∈ l,∃ i k : Nat,x.1 = (i : Int) ∧ x.2.1 = (k : Int) ∧ W i k = some x.2.2
 all : ∀ i k c,W i k = some c → ∃ x ∈ l,x.1 = (i : Int) ∧ x.2.1 = (k : Int) ∧ x.2.2 = c
theorem ArcsOf.walk (h : ArcsOf l W) (hw : WayF W s i m d) : Walk l s i m d := by
 induction hw with
 | nil => exact .nil
 | snoc _ hx ih =>
  obtain ⟨x,hm,h1,h2,h3⟩ := h.all _ _ _ hx; subst h3; exact ih.snoc hm h1 h2
theorem ArcsOf.way (h : ArcsOf l W) (hw : Walk l s i m d) : WayF W s i m d := by
 induction hw with
 | nil => exact .nil
 | snoc _ hx h1 h2 ih =>
  obtain ⟨a,b,g1,g2,g3⟩ := h.arc _ hx; rename_i i j k d x _
  have : a = i := by omega
  subst this; have : b = j := by omega
  subst this; exact ih.snoc g3
theorem ArcsOf.least (h : ArcsOf l W) (hn : NearB l s N far dn []) (hL : Led l far dn (fun _ => True)) (hok : ∀ x ∈ l,okA (N : Int) x = true) (hs : s < N) (hf : far i = some d) : LeastW W s i d := by
 obtain ⟨k,hk⟩ := hn.real i d hf; refine ⟨⟨k,h.way hk⟩,fun k2 c hw => ?_⟩; obtain ⟨e,he,hle⟩ := hn.least hL hok hs (h.walk hw); rw [hf] at he; injection he with he
 omega
theorem ArcsOf.found (h : ArcsOf l W) (hn : NearB l s N far dn []) (hL : Led l far dn (fun _ => True)) (hok : ∀ x ∈ l,okA (N : Int) x = true) (hs : s < N) (hw : W s i = some c) : ∃ d,far i = some d ∧ LeastW W s i d := by
 obtain ⟨e,he,_⟩ := hn.least hL hok hs (h.walk (WayF.one hw)); exact ⟨e,he,h.least hn hL hok hs he⟩
end Go.Proofs.YtfkommjlmolniaaGreatDoor
end
section

namespace Go.Proofs.YtfkommjlmolniaaGreatDoor
variable {T : Nat → Nat → Int} {N i j k m : Nat} {x : Ar}
def Z28 (T : Nat → Nat → Int) (i j : Nat) : List Ar := (List.range j).filterMap (fun k => if i = k then none else some ((i : Int),(k : Int),T i k))
def Z1g (T : Nat → Nat → Int) (N i : Nat) : List Ar := (List.range i).flatMap (fun a => Z28 T a N)
theorem Zcm : Z28 T i 0 = [] := rfl
theorem Zcn : Z28 T i (i + 1) = Z28 T i i := by
 unfold Z28; rw [List.range_succ,List.filterMap_append]; simp
theorem Zco (h : i ≠ j) : Z28 T i (j + 1) = Z28 T i j ++ [((i : Int),(j : Int),T i j)] := by
 unfold Z28; rw [List.range_succ,List.filterMap_append]; simp [h]
theorem Z6r : Z1g T N (i + 1) = Z1g T N i ++ Z28 T i N := by
 unfold Z1g; rw [List.range_succ,List.flatMap_append]; simp
theorem Z7y : (Z28 T i j).length ≤ j := by
 unfold Z28; refine Nat.le_trans (List.length_filterMap_le _ _) ?_; simp
theorem Z7z : (Z1g T N i).length ≤ i * N := by
 induction i with
 | zero => simp [Z1g]
 | succ i ih =>
  rw [Z6r,List.length_append,Nat.succ_mul]; have := Z7y (T := T) (i := i) (j := N); omega
theorem mem_waysTo : x ∈ Z1g T N m ↔ ∃ i k : Nat,i < m ∧ k < N ∧ i ≠ k ∧ x = ((i : Int),(k : Int),T i k) := by
 unfold Z1g Z28; simp only [List.mem_flatMap,List.mem_range,List.mem_filterMap]
 constructor
 ·rintro ⟨i,hi,k,hk,h⟩
  by_cases e : i = k
  ·rw [if_pos e] at h; cases h
  ·rw [if_neg e] at h
   injection h with h
   exact ⟨i,k,hi,hk,e,h.symm⟩
 ·rintro ⟨i,k,hi,hk,e,rfl⟩
  exact ⟨i,hi,k,hk,by rw [if_neg e]⟩
def fullW (T : Nat → Nat → Int) (N i k : Nat) : Option Int := if i < N ∧ k < N ∧ i ≠ k then some (T i k) else none
theorem fullW_some {c : Int} : fullW T N i k = some c ↔ (i < N ∧ k < N ∧ i ≠ k) ∧ c = T i k := by
 unfold fullW; split
 ·rename_i h
  exact ⟨fun e => ⟨h,by injection e with e; exact e.symm⟩,fun e => by rw [e.2]⟩
 ·rename_i h
  exact ⟨fun e => (by cases e),fun e => absurd e.1 h⟩
theorem Z33 : ArcsOf (Z1g T N N) (fullW T N) := ⟨fun x hx => by
 obtain ⟨i,k,hi,hk,e,rfl⟩ := mem_waysTo.1 hx; exact ⟨i,k,rfl,rfl,fullW_some.2 ⟨⟨hi,hk,e⟩,rfl⟩⟩,fun i k c h => by
 obtain ⟨⟨hi,hk,e⟩,rfl⟩ := fullW_some.1 h; exact ⟨_,mem_waysTo.2 ⟨i,k,hi,hk,e,rfl⟩,rfl,rfl,rfl⟩⟩
theorem Zbb (hN : N ≤ 141) (hT : ∀ i k,i < N → k < N → 0 ≤ T i k ∧ T i k ≤ 1099511627776) : Z15 (N : Int) (Z1g T N N) = 0 ∧ ∀ x ∈ Z1g T N N,0 ≤ x.2.2 := by
 have hm : ∀ x ∈ Z1g T N N,okA (N : Int) x = true ∧ 0 ≤ x.2.2 := fun x hx => by
  obtain ⟨i,k,hi,hk,e,rfl⟩ := mem_waysTo.1 hx; have := hT i k hi hk; exact ⟨okA_true.2 ⟨by simp only; omega,by simp only; omega,by simp only; omega,by simp only; omega⟩,this.1⟩
 have hl := Z7z (T := T) (N := N) (i := N); have h2 : N * N ≤ 141 * 141 := Nat.mul_le_mul hN hN; exact ⟨checkV_zero.2 ⟨⟨by omega,by omega,by omega⟩,fun x hx => (hm x hx).1⟩,fun x hx => (hm x hx).2⟩
/-! ### The same arcs by other names -/
variable {W W2 : Nat → Nat → Option Int} {f : Nat → Nat} {s : Nat} {d : Int}
theorem WayF.named (hW : ∀ i k c,W i k = some c → W2 (f i) (f k) = some c) (h : WayF W s i m d) : WayF W2 (f s) (f i) m d := by
 induction h with
 | nil => exact .nil
 | snoc _ hx ih => exact ih.snoc (hW _ _ _ hx)
theorem WayF.unnamed (hW : ∀ i k c,W2 i k = some c → ∃ a b,i = f a ∧ k = f b ∧ a < N ∧ b < N ∧ W a b = some c) (hf : ∀ a b,a < N → b < N → f a = f b → a = b) (hs : s < N) {t : Nat} (h : WayF W2 (f s) t m d) : ∃ i,i < N ∧ t = f i ∧ WayF W s i m d := by
 induction h with
 | nil => exact ⟨s,hs,rfl,.nil⟩
 | snoc _ hx ih =>
  obtain ⟨i,hi,e,hw⟩ := ih; obtain ⟨a,b,e1,e2,ha,hb,h3⟩ := hW _ _ _ hx; have : i = a := hf i a hi ha (by rw [← e,← e1])
  subst this; exact ⟨b,hb,e2,hw.snoc h3⟩
theorem LeastW.named (hW : ∀ i k c,W i k = some c → W2 (f i) (f k) = some c) (hW2 : ∀ i k c,W2 i k = some c → ∃ a b,i = f a ∧ k = f b ∧ a < N ∧ b < N ∧ W a b = some c) (hf : ∀ a b,a < N → b < N → f a = f b → a = b) (hs : s < N) (hi : i < N) (h : LeastW W s i d) : LeastW W2 (f s) (f i) d := by
 obtain ⟨⟨k,hw⟩,h2⟩ := h; refine ⟨⟨k,hw.named hW⟩,fun k c hw => ?_⟩; obtain ⟨i2,hi2,e,hw2⟩ := hw.unnamed hW2 hf hs; have : i = i2 := hf i i2 hi hi2 e; subst this; exact h2 k c hw2
end Go.Proofs.YtfkommjlmolniaaGreatDoor
end
