/- Joined: BFind. -/
import Derived.Test.YtfkommjlmolniaaGreatDoorHsBRight
import Derived.Test.YtfkommjlmolniaaGreatDoorHd22
import Derived.Maps.RangeWalk
import Derived.Test.YtfkommjlmolniaaGreatDoorHd6
set_option linter.unusedVariables false
section

namespace Go.Proofs.YtfkommjlmolniaaGreatDoor
set_option maxHeartbeats 16000000
set_option maxRecDepth 100000
open Go.Lib (hid)
open Go.RowKit
variable {w wr w2 : World} {A : InA} {x : Ins} {C c z y s k who i j best : Nat} {f : Nat → Int} {P : Nat → Bool} {p q : Nat → Nat → Bool} {l l2 : List Int} {d : Nat → Int} {sh few room : Int}
theorem Z96 (h : 0 ≤ room) : ∃ n,CountOf C P f room n := by
 have key : ∀ z,∃ best,BestTo C P f room z best := fun z => by
  induction z with
  | zero => exact ⟨0,BestTo.begin_ h⟩
  | succ z ih =>
   obtain ⟨b,hb⟩ := ih; by_cases e : SubZ C P z ∧ sumZ C f z ≤ room
   ·exact ⟨_,hb.yes e.1 e.2⟩
   ·exact ⟨_,hb.no e⟩
 obtain ⟨b,hb⟩ := key (2 ^ C); exact ⟨b,hb.done⟩
theorem Z4y (hm : May x) (p : Nat → Nat → Bool) : ∃ l,CountsOf x p l := by
 have key : ∀ k,k ≤ x.sats.length → ∃ l,CountsTo x p l k := fun k => by
  induction k with
  | zero => intro _; exact ⟨[],rfl,fun s hs => by omega⟩
  | succ k ih =>
   intro hk; obtain ⟨l,hl⟩ := ih (by omega)
   obtain ⟨n,hn⟩ := Z96 (C := x.cus.length) (P := p k) (f := ldI x) (hm.rooms k (by omega)).1
   exact ⟨_,hl.push hn⟩
 obtain ⟨l,h1,h2⟩ := key x.sats.length (Nat.le_refl _); exact ⟨l,h1,h2⟩
def KB (x : Ins) (p : Nat → Nat → Bool) (k c : Nat) : Prop := (k = 1 ∧ BigB x c) ∨ (k = 2 ∧ LateB x p c)
theorem Zcq (hc : c < x.cus.length) (hk : k = 1 ∨ k = 2) (hp : MayOf x p) (hq : MayOf x q) : Z1v x p k c ↔ KB x q k c := by
 rcases hk with rfl | rfl
 ·unfold Z1v KB BigB
  constructor
  ·rintro (h | h | h | h)
   ·exact .inl ⟨rfl,hc,h.2⟩
   ·omega
   ·omega
   ·omega
  ·rintro (h | h)
   ·exact .inl ⟨rfl,h.2.2⟩
   ·omega
 ·unfold Z1v KB LateB
  constructor
  ·rintro (h | h | h | h)
   ·omega
   ·exact .inr ⟨rfl,hc,fun s hs => by rw [hq.unique hp hs hc]; exact h.2 s hs⟩
   ·omega
   ·omega
  ·rintro (h | h)
   ·omega
   ·exact .inr (.inl ⟨rfl,fun s hs => by rw [hp.unique hq hs hc]; exact h.2.2 s hs⟩)
def NoW (x : Ins) (i : Nat) : Prop := ∀ p,MayOf x p → NoB x p [] i
theorem NoB.lists (h : NoB x p l i) (hi : i ≤ 4) : NoB x p l2 i := ⟨h.1,h.2.1,h.2.2.1,h.2.2.2.1,fun e => by omega,fun e => by omega⟩
theorem NoW.zero : NoW x 0 := fun p _ => ⟨fun e => by omega,fun e => by omega,fun e => by omega,fun e => by omega,fun e => by omega,fun e => by omega⟩
theorem NoW.byWho (h : NoW x i) (hi : i < 2) (hn : ∀ p,MayOf x p → ∀ c,c < x.cus.length → ¬ KB x p (i + 1) c) : NoW x (i + 1) := fun p hp => by
 have h0 := h p hp; have h1 := hn p hp; have hi2 : i = 0 ∨ i = 1 := by omega
 rcases hi2 with rfl | rfl
 ·exact ⟨fun _ c hb => h1 c hb.1 (.inl ⟨rfl,hb⟩),fun e => by omega,fun e => by omega,fun e => by omega,fun e => by omega,fun e => by omega⟩
 ·exact ⟨fun _ => h0.1 (by omega),fun _ c hb => h1 c hb.1 (.inr ⟨rfl,hb⟩),fun e => by omega,fun e => by omega,fun e => by omega,fun e => by omega⟩
theorem NoW.fleet (h : NoW x (i + 2)) (hi : i < 2) (_hp : MayOf x p) (hn : ¬ Z1v x p (i + 3) 0) : NoW x (i + 3) := fun q hq => by
 have h0 := h q hq; have hi2 : i = 0 ∨ i = 1 := by omega
 rcases hi2 with rfl | rfl
 ·exact ⟨fun _ => h0.1 (by omega),fun _ => h0.2.1 (by omega),fun _ hb => hn (.inr (.inr (.inl ⟨rfl,hb⟩))),fun e => by omega,fun e => by omega,fun e => by omega⟩
 ·exact ⟨fun _ => h0.1 (by omega),fun _ => h0.2.1 (by omega),fun _ => h0.2.2.1 (by omega),fun _ hb => hn (.inr (.inr (.inr ⟨rfl,hb⟩))),fun e => by omega,fun e => by omega⟩
theorem Zgk (hm : May x) (h : NoW x i) (hi : i < 2) (hp : MayOf x p) (hb : KB x p (i + 1) c) (hn : ∀ c2,c2 < c → ¬ KB x p (i + 1) c2) : FoundX x (i + 1) c 0 := by
 obtain ⟨l,hl⟩ := Z4y hm p; refine ⟨p,l,hp,hl,.inr ⟨?_,(h p hp).lists (by omega)⟩⟩
 have hi2 : i = 0 ∨ i = 1 := by omega
 rcases hi2 with rfl | rfl
 ·have hb1 : BigB x c := by
   rcases hb with h | h
   ·exact h.2
   ·omega
  exact .inl ⟨rfl,rfl,hb1,fun c2 h2 h3 => hn c2 h2 (.inl ⟨rfl,h3⟩)⟩
 ·have hb1 : LateB x p c := by
   rcases hb with h | h
   ·omega
   ·exact h.2
  exact .inr (.inl ⟨rfl,rfl,hb1,fun c2 h2 h3 => hn c2 h2 (.inr ⟨rfl,h3⟩)⟩)
theorem Zbg (hm : May x) (h : NoW x (i + 2)) (hi : i < 2) (hp : MayOf x p) (hb : Z1v x p (i + 3) 0) : FoundX x (i + 3) 0 0 := by
 obtain ⟨l,hl⟩ := Z4y hm p; refine ⟨p,l,hp,hl,.inr ⟨?_,(h p hp).lists (by omega)⟩⟩
 have hi2 : i = 0 ∨ i = 1 := by omega
 rcases hi2 with rfl | rfl
 ·rcases hb with h | h | h | h
  ·omega
  ·omega
  ·exact .inr (.inr (.inl ⟨rfl,rfl,rfl,h.2⟩))
  ·omega
 ·rcases hb with h | h | h | h
  ·omega
  ·omega
  ·omega
  ·exact .inr (.inr (.inr (.inl ⟨rfl,rfl,rfl,h.2⟩)))
def BestD (C : Nat) (d : Nat → Int) (z best : Nat) (sh few : Int) : Prop :=
 (best = 0 ∧ sh = 0 ∧ few = 0 ∧ ∀ y,y < z → d y ≤ 0) ∨ (0 < sh ∧ best < z ∧ d best = sh ∧ few = sizeZ C best ∧ ∀ y,y < z → d y ≤ sh ∧ (d y = sh → few ≤ sizeZ C y))
theorem BestD.zero : BestD C d 0 0 0 0 := .inl ⟨rfl,rfl,rfl,fun y hy => by omega⟩
theorem BestD.sh_ (h : BestD C d z best sh few) : 0 ≤ sh ∧ best ≤ z := by
 rcases h with h | h
 ·omega
 ·omega
theorem BestD.up (h : BestD C d z best sh few) (hg : sh < d z) : BestD C d (z + 1) z (d z) (sizeZ C z) := by
 have hs := h.sh_; refine .inr ⟨by omega,by omega,rfl,rfl,fun y hy => ?_⟩
 by_cases e : y = z
 ·subst e; exact ⟨Int.le_refl _,fun _ => Int.le_refl _⟩
 ·rcases h with ⟨_,_,_,h4⟩ | ⟨_,_,_,_,h5⟩
  ·have := h4 y (by omega); exact ⟨by omega,fun e => by omega⟩
  ·have := (h5 y (by omega)).1; exact ⟨by omega,fun e => by omega⟩
theorem BestD.fewer (h : BestD C d z best sh few) (he : d z = sh) (h0 : 0 < d z) (hf : sizeZ C z < few) : BestD C d (z + 1) z (d z) (sizeZ C z) := by
 refine .inr ⟨h0,by omega,rfl,rfl,fun y hy => ?_⟩
 by_cases e : y = z
 ·subst e; exact ⟨Int.le_refl _,fun _ => Int.le_refl _⟩
 ·rcases h with ⟨_,_,_,h4⟩ | ⟨_,_,_,_,h5⟩
  ·omega
  ·have := h5 y (by omega); exact ⟨by omega,fun e2 => by have := this.2 (by omega); omega⟩
theorem BestD.stay (h : BestD C d z best sh few) (h1 : ¬ sh < d z) (h2 : ¬ (d z = sh ∧ 0 < d z ∧ sizeZ C z < few)) : BestD C d (z + 1) best sh few := by
 rcases h with ⟨a1,a2,a3,h4⟩ | ⟨a1,a2,a3,a4,h5⟩
 ·refine .inl ⟨a1,a2,a3,fun y hy => ?_⟩
  by_cases e : y = z
  ·subst e; omega
  ·exact h4 y (by omega)
 ·refine .inr ⟨a1,by omega,a3,a4,fun y hy => ?_⟩
  by_cases e : y = z
  ·subst e; exact ⟨by omega,fun e => by omega⟩
  ·exact h5 y (by omega)
theorem BestD.best_ (h : BestD C d (2 ^ C) best sh few) (h0 : 0 < sh) : IsBest C d best := by
 rcases h with h | ⟨a1,a2,a3,a4,h5⟩
 ·omega
 ·exact ⟨a2,by omega,fun y hy => by have := (h5 y hy).1; omega,fun y hy e => by have := (h5 y hy).2 (by omega); omega⟩
theorem BestD.none_ (h : BestD C d (2 ^ C) best sh few) (h0 : ¬ 0 < sh) : Z2e C d := by
 rcases h with ⟨_,_,_,h4⟩ | ⟨a1,_⟩
 ·exact h4
 ·omega
theorem Zjs : ∀ C : Nat,C < 7 → ∀ z : Nat,z < 64 → z < 2 ^ C → (((allN z).length : Nat) : Int) = sizeZ C z := by decide +kernel
structure FdW (w wr : World) (A : InA) (x : Ins) : Prop where
 box : XBox w wr w.heap.size A x
 res : wr.heap[w.heap.size + 1]? = some (.cells #[.int .i64 0,.int .i64 0,.int .u64 0] 44 (0,0))
theorem FdW.later (h : FdW w wr A x) (hb : Below wr.heap.size wr w2) : FdW w w2 A x := ⟨h.box.later hb,(hb.block _ (Array.getElem?_eq_some_iff.1 h.res).1).trans h.res⟩
theorem FdW.cells (h : FdW w wr A x) : wr.cell? ⟨w.heap.size + 1,0,none⟩ = some (.int .i64 0) ∧ wr.cell? ⟨w.heap.size + 1,1,none⟩ = some (.int .i64 0) ∧ wr.cell? ⟨w.heap.size + 1,2,none⟩ = some (.int .u64 0) ∧ ∀ k,wr.frozen? ⟨w.heap.size + 1,k,none⟩ = false := by
 refine ⟨by simp [World.cell?,h.res],by simp [World.cell?,h.res],by simp [World.cell?,h.res],fun k => by simp [World.frozen?,h.res]⟩
theorem FdW.done (h : FdW w wr A x) (k who z : Value) :
  let W := ((wr.setCell ⟨w.heap.size + 1,0,none⟩ k).setCell ⟨w.heap.size + 1,1,none⟩ who).setCell ⟨w.heap.size + 1,2,none⟩ z
  W.cell? ⟨w.heap.size + 1,0,none⟩ = some k ∧ W.cell? ⟨w.heap.size + 1,1,none⟩ = some who ∧ W.cell? ⟨w.heap.size + 1,2,none⟩ = some z ∧ Below w.heap.size w W := by
 intro W; have h1 := heap_setCell_same wr _ 0 _ _ k h.res; have h2 := heap_setCell_same _ _ 1 _ _ who h1; have h3 := heap_setCell_same _ _ 2 _ _ z h2; refine ⟨by simp [World.cell?,W,h3],by simp [World.cell?,W,h3],by simp [World.cell?,W,h3],((h.box.below.setCell (p := ⟨w.heap.size + 1,0,none⟩) (by simp) _).setCell (p := ⟨w.heap.size + 1,1,none⟩) (by simp) _).setCell (p := ⟨w.heap.size + 1,2,none⟩) (by simp) _⟩
structure KdW (wr : World) (g : Nat) (a b : Int) : Prop where
 blk : wr.heap[g]? = some (.cells #[.int .i64 a,.int .i64 b] 40 (0,0))
theorem KdW.later {g : Nat} {a b : Int} (h : KdW wr g a b) (hb : Below wr.heap.size wr w2) : KdW w2 g a b := ⟨(hb.block _ (Array.getElem?_eq_some_iff.1 h.blk).1).trans h.blk⟩
theorem KdW.at_ {g : Nat} {a : Int} (h : KdW wr g a (a + 1)) (hi : i < 2) : wr.cell? ⟨g,i,none⟩ = some (.int .i64 (a + (i : Int))) := by
 have hi2 : i = 0 ∨ i = 1 := by omega
 rcases hi2 with rfl | rfl
 ·simp [World.cell?,h.blk]
 ·simp [World.cell?,h.blk]
theorem NoB.loads (h : NoB x p l 4) (hn : Z2e x.cus.length (Z17 x p)) : NoB x p l 5 := ⟨fun _ => h.1 (by omega),fun _ => h.2.1 (by omega),fun _ => h.2.2.1 (by omega),fun _ => h.2.2.2.1 (by omega),fun _ => hn,fun e => by omega⟩
theorem NoB.counts (h : NoB x p l 5) (hn : Z2e x.cus.length (Z1q x p l)) : NoB x p l 6 := ⟨fun _ => h.1 (by omega),fun _ => h.2.1 (by omega),fun _ => h.2.2.1 (by omega),fun _ => h.2.2.2.1 (by omega),fun _ => h.2.2.2.2.1 (by omega),fun _ => hn⟩
theorem CountsOf.small (h : CountsOf x p l) (hC : x.cus.length ≤ 6) : ∀ s,s < x.sats.length → 0 ≤ l.getD s 0 ∧ l.getD s 0 ≤ 64 := fun s hs => by
 obtain ⟨n,a1,a2⟩ := h.2 s hs; rw [List.getD,a2,Option.getD_some]; obtain ⟨y,_,_,e⟩ := a1.some_; have := Z5d (c := x.cus.length) (z := y); omega
def FindP (x : Ins) (w : World) (e : Ending) (w' : World) : Prop := ∃ k who z : Nat,e = .returned (.tuple #[blkC (k : Int) (who : Int) (z : Int),.bool (decide (k ≠ 0))]) ∧ FoundX x k who z ∧ Below w.heap.size w w'
theorem Zgl (A : InA) (x : Ins) (w : World) (hi : IsIns w.heap.size w A x) (hm : May x) (hC : x.cus.length ≤ 6) :
  Calls Tryz.prog 13 #[.agg (insC A x)] w (FindP x w) := by
 have HX := hid (XBox.make (Below.refl _ w) A x); have HM := hid hm; have HRT := hid (fun (W : World) (k who : Nat) (h : FdW w W A x) (hk : ((k = 1 ∨ k = 2) ∧ who < x.cus.length) ∨ ((k = 3 ∨ k = 4) ∧ who = 0)) => Zep A x W (h.box.pipesHere hi) hm hC hk); have HMY := hid (fun (W : World) (h : FdW w W A x) => Z6h A x W (h.box.pipesHere hi) hm); have HCT := hid (fun (W : World) (h : FdW w W A x) => Z3z A x W (h.box.pipesHere hi) hm hC); have HI := hid hi; have hnc1 := hm.nc.1; have hns1 := hm.ns.1; have hns2 := hm.ns.2; have HF0 : Hid (FdW w (((w.alloc (.cells (insC A x) 34)).alloc (.cells #[.int .i64 0,.int .i64 0,.int .u64 0] 44)).alloc (.cells #[.int .i64 1,.int .i64 2] 40)) A x) := hid (FdW.later ⟨HX.out.later ((Below.refl _ _).alloc (Nat.le_refl _) _),heap_alloc2_new _ _ _⟩ ((Below.refl _ _).alloc (Nat.le_refl _) _)); have HK0 : Hid (KdW (((w.alloc (.cells (insC A x) 34)).alloc (.cells #[.int .i64 0,.int .i64 0,.int .u64 0] 44)).alloc (.cells #[.int .i64 1,.int .i64 2] 40)) (w.heap.size + 1 + 1) 1 (1 + 1)) := hid ⟨by
  have h := heap_alloc_new ((w.alloc (.cells (insC A x) 34)).alloc (.cells #[.int .i64 0,.int .i64 0,.int .u64 0] 44)) (.cells #[.int .i64 1,.int .i64 2] 40); rw [show ((w.alloc (.cells (insC A x) 34)).alloc (.cells #[.int .i64 0,.int .i64 0,.int .u64 0] 44)).heap.size = w.heap.size + 1 + 1 by simp] at h
  exact h⟩
 have HN0 : Hid (NoW x 0) := hid NoW.zero; clear hi hm HX; unfold insC at *; go_enter Tryz.func13,Tryz.ntmps13
 go_wp2_with fail
 obtain ⟨w3,hw3⟩ : ∃ w3,(((w.alloc (.cells #[.int .i64 x.en,.int .i64 x.tm,.int .i64 x.tr,.int .i64 x.bm,.int .i64 x.br,.slice A.sa x.sats.length A.sc,.slice A.ca x.cus.length A.cc,.slice A.ka x.cost.length A.kc,.slice A.ta x.time.length A.tc] 34)).alloc (.cells #[.int .i64 0,.int .i64 0,.int .u64 0] 44)).alloc (.cells #[.int .i64 1,.int .i64 2] 40)) = w3 := ⟨_,rfl⟩; obtain ⟨gk,hgk⟩ : ∃ g,w.heap.size + 1 + 1 = g := ⟨_,rfl⟩; rw [hw3] at HF0 HK0; rw [hgk] at HK0; rw [hw3,hgk]; clear hw3 hgk; go_loopw [24] (fun iv wr => ∃ i : Nat,iv = .int .i64 (i : Int) ∧ i ≤ 2 ∧ Hid (FdW w wr A x) ∧ Hid (KdW wr gk 1 (1 + 1)) ∧ Hid (NoW x i)) (fun iv _ => 2 - (intOf iv).toNat)
 case atStart => exact ⟨0,rfl,Nat.zero_le _,HF0,HK0,HN0⟩
 case round =>
  obtain ⟨i,rfl,hi,HF,HK,HN⟩ := hrel; clear HF0 HK0 HN0; by_cases hit : i < 2
  ·obtain ⟨k,hk⟩ : ∃ k : Nat,k = i + 1 := ⟨_,rfl⟩
   have q0 := HK.out.at_ hit; rw [show (1 : Int) + (i : Int) = (k : Int) by omega] at q0
   have hd1 : decide ((i : Int) < 2) = true := decide_eq_true (by omega)
   have hd2 : decide (i < 2) = true := decide_eq_true hit; have c6 := HF.out.box.cells.2.2.2.2.2.2.1; have HB0 : Hid (∀ p,MayOf x p → ∀ c,c < 0 → ¬ KB x p k c) := hid (fun p _ c hc => by omega)
   have HKI := hid hk; clear hk; go_wp2_with fail
   clear q0 c6; go_loopw [31] (fun jv wr => ∃ j : Nat,jv = .int .i64 (j : Int) ∧ j ≤ x.cus.length ∧ Hid (FdW w wr A x) ∧ Hid (KdW wr gk 1 (1 + 1)) ∧ Hid (∀ p,MayOf x p → ∀ c,c < j → ¬ KB x p k c)) (fun jv _ => x.cus.length - (intOf jv).toNat)
   case atStart => exact ⟨0,rfl,Nat.zero_le _,HF,HK,HB0⟩
   case round =>
    clear HB0 HF HK; obtain ⟨j,rfl,hj,HF,HK,HB⟩ := hrel; by_cases hjt : j < x.cus.length
    ·have hbn := (Below.refl wr.heap.size wr).alloc (Nat.le_refl _) (.cells #[.int .i64 (k : Int),.int .i64 (j : Int),.int .u64 0] 44)
     have HF5 := hid (HF.out.later hbn); have HK5 := hid (HK.out.later hbn); obtain ⟨c0,c1,c2,c3,c4,c5,c6,c7,c8⟩ := HF5.out.box.cells; have HK12 := hid (show k = 1 ∨ k = 2 by have := HKI.out; omega)
     clear hbn; go_wp2_with fail
     refine (HRT.out _ k j HF5.out (.inl ⟨HK12.out,hjt⟩)).mono ?_; rintro e w6 ⟨b,p,rfl,hp,hb,hb6⟩; clear c0 c1 c2 c3 c4 c5 c6 c7 c8; cases b with
     | true =>
     have hbk := (hb6.block wr.heap.size (by simp)).trans (heap_alloc_new wr (.cells #[.int .i64 (k : Int),.int .i64 (j : Int),.int .u64 0] 44))
     have a0 : w6.cell? ⟨wr.heap.size,0,none⟩ = some (.int .i64 (k : Int)) := by simp [World.cell?,hbk]
     have a1 : w6.cell? ⟨wr.heap.size,1,none⟩ = some (.int .i64 (j : Int)) := by simp [World.cell?,hbk]
     have a2 : w6.cell? ⟨wr.heap.size,2,none⟩ = some (.int .u64 0) := by simp [World.cell?,hbk]
     have HF6 := hid (HF5.out.later hb6); have HFD : Hid (FoundX x k j 0) := hid (by have h := (Zcq hjt HK12.out hp hp).1 (hb.1 rfl); have h2 := HKI.out; subst h2; exact Zgk HM.out HN.out hit hp h (HB.out p hp))
     obtain ⟨d0,d1,d2,d3⟩ := HF6.out.cells; clear hb6 hbk hb hp; go_wp2_with fail
     obtain ⟨g0,g1,g2,hbl⟩ := HF6.out.done (.int .i64 (k : Int)) (.int .i64 (j : Int)) (.int .u64 0); have hkz : decide (k ≠ 0) = true := decide_eq_true (by have := HKI.out; omega)
     refine bodyPost_ret (v := .tuple #[blkC (k : Int) (j : Int) 0,.bool true]) ?_ rfl ⟨k,j,0,by rw [hkz]; rfl,HFD.out,hbl⟩
     simp [results,Tryz.results13,go_sem,g0,g1,g2]
     | false =>
      have HF6 := hid (HF5.out.later hb6); have HK6 := hid (HK5.out.later hb6); have HB6 : Hid (∀ p,MayOf x p → ∀ c,c < j + 1 → ¬ KB x p k c) := hid (fun q hq c hc hkb => by
       by_cases e : c = j
       ·subst e
        have := hb.2 ((Zcq hjt HK12.out hp hq).2 hkb); cases this
       ·exact HB.out q hq c (by omega) hkb)
      clear hb6 hb hp; go_wp2_with fail
      go_roundw
      case rel => exact ⟨j + 1,by go_num,by omega,HF6,HK6,HB6⟩
      case measure => simp [intOf]; omega
    ·obtain rfl : j = x.cus.length := by omega
     have HN1 : Hid (NoW x (i + 1)) := hid (HN.out.byWho hit (by have h := HB.out; rw [HKI.out] at h; exact h))
     go_wp2_with fail
     go_roundw
     case rel => exact ⟨i + 1,by go_num,by omega,HF,HK,HN1⟩
     case measure => simp [intOf]; omega
  ·have HN2 : Hid (NoW x (0 + 2)) := hid (by have h := HN.out; rw [show i = 2 by omega] at h; exact h)
   have hdf : decide ((i : Int) < 2) = false := decide_eq_false (by omega)
   have hdf2 : decide (i < 2) = false := decide_eq_false (by omega)
   have hbn := (Below.refl wr.heap.size wr).alloc (Nat.le_refl _) (.cells #[.int .i64 3,.int .i64 4] 40); have HF1 := hid (HF.out.later hbn); have HK1 : Hid (KdW (wr.alloc (.cells #[.int .i64 3,.int .i64 4] 40)) wr.heap.size 3 (3 + 1)) := hid ⟨heap_alloc_new _ _⟩; clear hbn HK HF HN; go_wp2_with fail
   obtain ⟨w7,hw7⟩ : ∃ z,wr.alloc (.cells #[.int .i64 3,.int .i64 4] 40) = z := ⟨_,rfl⟩; obtain ⟨g2,hg2⟩ : ∃ g,wr.heap.size = g := ⟨_,rfl⟩; rw [hw7] at HF1 HK1; rw [hg2] at HK1; rw [hw7,hg2]; clear hw7 hg2; go_loopw [45] (fun iv wr => ∃ i : Nat,iv = .int .i64 (i : Int) ∧ i ≤ 2 ∧ Hid (FdW w wr A x) ∧ Hid (KdW wr g2 3 (3 + 1)) ∧ Hid (NoW x (i + 2))) (fun iv _ => 2 - (intOf iv).toNat)
   case atStart => exact ⟨0,rfl,Nat.zero_le _,HF1,HK1,HN2⟩
   case round =>
    clear HF1 HK1 HN2; obtain ⟨i,rfl,hi,HF,HK,HN⟩ := hrel; by_cases hit : i < 2
    ·obtain ⟨k,hk⟩ : ∃ k : Nat,k = i + 3 := ⟨_,rfl⟩
     have q0 := HK.out.at_ hit; rw [show (3 : Int) + (i : Int) = (k : Int) by omega] at q0
     have hd1 : decide ((i : Int) < 2) = true := decide_eq_true (by omega)
     have hd2 : decide (i < 2) = true := decide_eq_true hit; have HKI := hid hk; have hbn := (Below.refl wr.heap.size wr).alloc (Nat.le_refl _) (.cells #[.int .i64 (k : Int),.int .i64 0,.int .u64 0] 44); have HF5 := hid (HF.out.later hbn); have HK5 := hid (HK.out.later hbn); obtain ⟨c0,c1,c2,c3,c4,c5,c6,c7,c8⟩ := HF5.out.box.cells; have HK34 := hid (show k = 3 ∨ k = 4 by omega)
     clear hk hbn; go_wp2_with fail
     refine (HRT.out _ k 0 HF5.out (.inr ⟨HK34.out,rfl⟩)).mono ?_; rintro e w6 ⟨b,p,rfl,hp,hb,hb6⟩; clear c0 c1 c2 c3 c4 c5 c6 c7 c8 q0; cases b with
     | true =>
     have hbk := (hb6.block wr.heap.size (by simp)).trans (heap_alloc_new wr (.cells #[.int .i64 (k : Int),.int .i64 0,.int .u64 0] 44))
     have a0 : w6.cell? ⟨wr.heap.size,0,none⟩ = some (.int .i64 (k : Int)) := by simp [World.cell?,hbk]
     have a1 : w6.cell? ⟨wr.heap.size,1,none⟩ = some (.int .i64 0) := by simp [World.cell?,hbk]
     have a2 : w6.cell? ⟨wr.heap.size,2,none⟩ = some (.int .u64 0) := by simp [World.cell?,hbk]
     have HF6 := hid (HF5.out.later hb6); have HFD : Hid (FoundX x k 0 0) := hid (by have h := hb.1 rfl; have h2 := HKI.out; subst h2; exact Zbg HM.out HN.out hit hp h)
     obtain ⟨d0,d1,d2,d3⟩ := HF6.out.cells; clear hb6 hbk hb hp; go_wp2_with fail
     obtain ⟨g0,g1,g2,hbl⟩ := HF6.out.done (.int .i64 (k : Int)) (.int .i64 0) (.int .u64 0); have hkz : decide (k ≠ 0) = true := decide_eq_true (by have := HKI.out; omega)
     refine bodyPost_ret (v := .tuple #[blkC (k : Int) 0 0,.bool true]) ?_ rfl ⟨k,0,0,by rw [hkz]; rfl,HFD.out,hbl⟩
     simp [results,Tryz.results13,go_sem,g0,g1,g2]
     | false =>
      have HF6 := hid (HF5.out.later hb6); have HK6 := hid (HK5.out.later hb6); have HN6 : Hid (NoW x (i + 1 + 2)) := hid (by
       have h := HN.out.fleet hit hp (fun h => by rw [← HKI.out] at h; have := hb.2 h; cases this)
       rw [show i + 1 + 2 = i + 3 by omega]
       exact h)
      clear hb6 hb hp; go_wp2_with fail
      go_roundw
      case rel => exact ⟨i + 1,by go_num,by omega,HF6,HK6,HN6⟩
      case measure => simp [intOf]; omega
    ·have HN4 : Hid (NoW x 4) := hid (by have h := HN.out; rw [show i = 2 by omega] at h; exact h)
     have hdf : decide ((i : Int) < 2) = false := decide_eq_false (by omega)
     have hdf2 : decide (i < 2) = false := decide_eq_false (by omega)
     have HFD := hid (HF.out.later (Below.refl _ _).drew); clear HK; go_wp2_with fail
     refine wp_region_held_drew (S := fun Wz => FdW w Wz A x) (by kernel_rfl) HFD.out (fun hHeld => ?_)
     refine stpT 0 hHeld ?_ (y := fun Wz hWz => by obtain ⟨c0,c1,c2,c3,c4,c5,c6,c7,c8⟩ := XBox.cells hWz.box; go_simp; (try with_reducible rfl))
     try go_frame
     refine stpT 2 hHeld ?_ (y := fun Wz hWz => by obtain ⟨c0,c1,c2,c3,c4,c5,c6,c7,c8⟩ := XBox.cells hWz.box; go_simp; (try with_reducible rfl))
     try go_frame
     refine stpR 1 (fun K hK => ?_); go_simp; refine (HMY.out _ hHeld).mono ?_; rintro e w8 ⟨v,p,rfl,⟨B,hB⟩,hp,hb8⟩; obtain ⟨ma,mc,hv⟩ := hB.shape; subst hv; have hd8 := FdW.later hHeld hb8; have HBR := hid hB; have HP := hid hp; clear hb8 hB hp; refine hK.out _ _ ?_ (fun hHeld => ?_)
     ·exact hd8
     clear hK K; try go_frame
     refine stpR 3 (fun K hK => ?_); go_simp; refine (HCT.out _ hHeld).mono ?_; rintro e w9 ⟨cl,ca,cc,rfl,hn,hcx,hb9⟩; have hd9 := FdW.later hHeld hb9; have HBR9 := hid (HBR.out.later hb9); have HNM := hid hn; have HCX := hid hcx; clear hb9 hn hcx; refine hK.out _ _ ?_ (fun hHeld => ?_)
     ·exact hd9
     clear hK K; try go_frame
     refine stpT 4 hHeld ?_ (y := fun Wz hWz => by obtain ⟨c0,c1,c2,c3,c4,c5,c6,c7,c8⟩ := XBox.cells hWz.box; go_simp; (try with_reducible rfl))
     try go_frame
     refine stpT 5 hHeld ?_ (y := fun Wz hWz => by obtain ⟨c0,c1,c2,c3,c4,c5,c6,c7,c8⟩ := XBox.cells hWz.box; go_simp; (try with_reducible rfl))
     try go_frame
     refine wpAnyH_done (by kernel_rfl) ?_ _
     have HF9 := hid hd9; clear hHeld hd9 hd8 HFD HBR HF; have HCO : Hid (CountsOf x p cl) := hid (by
      obtain ⟨q,hq,hc⟩ := HCX.out; exact hc.congr (fun s c hs hc => hq.unique HP.out hs hc))
     obtain ⟨mb,hma,-,-⟩ := HBR9.out.at_ (s := 0) (by omega)
     subst hma; have hcll := HCO.out.1; obtain ⟨cb,co,hcae,hcb,hcn⟩ : ∃ b off,ca = some ⟨b,off,none⟩ ∧ b < w9.heap.size ∧ ∀ (j : Nat) (v : Int),cl[j]? = some v → w9.cell? ⟨b,off + j,none⟩ = some (.int .i64 v) := by
      rcases HNM.out.2 with h | h
      ·omega
      ·exact h
     subst hcae; rw [hcll]; have HSH : Hid (∀ (W : World) (z : Nat),FdW w W A x → Below w9.heap.size w9 W → z < 64 → Calls Tryz.prog 24 #[.agg #[.int .i64 x.en,.int .i64 x.tm,.int .i64 x.tr,.int .i64 x.bm,.int .i64 x.br,.slice A.sa x.sats.length A.sc,.slice A.ca x.cus.length A.cc,.slice A.ka x.cost.length A.kc,.slice A.ta x.time.length A.tc],.slice (some ⟨mb,0,none⟩) x.sats.length mc,.slice (some ⟨cb,co,none⟩) x.sats.length cc,.int .i64 (z : Int)] W fun e w' => e = .returned (.tuple #[.int .i64 (Z17 x p z),.int .i64 (Z1q x p cl z)]) ∧ Below W.heap.size W w') := hid (fun W z hF hB hz => Zes A x W (hF.box.pipesHere HI.out) HM.out hC (HBR9.out.later hB) hcll (HCO.out.small hC) (Nat.lt_of_lt_of_le hcb hB.size) (fun s v hv => (hB.cell (p := ⟨cb,co + s,none⟩) hcb).trans (hcn s v hv)) z hz); obtain ⟨M,hM⟩ : ∃ M : Nat,2 ^ x.cus.length = M := ⟨_,rfl⟩; have hM64 : M ≤ 64 := by rw [← hM]; exact Nat.le_trans (Nat.pow_le_pow_right (by omega) hC) (by decide)
     have hw : wrap64 (2 ^ x.cus.length) = (M : Int) := by
      have h1 : (2 : Int) ^ x.cus.length = ((2 ^ x.cus.length : Nat) : Int) := by simp
      rw [h1,hM]; unfold wrap64; omega
     have HMM := hid hM; have HWW := hid hw; have HLN : Hid (∀ (W : World) (z : Nat),z < M → Calls Tryz.prog 25 #[.int .u64 (z : Int)] W fun e w' => e = .returned (.int .i64 (sizeZ x.cus.length z)) ∧ W = w') := hid (fun W z hz => by
      have h := Zja z (by omega) W
      rw [Zjs x.cus.length (by omega) z (by omega) (by rw [hM]; exact hz)] at h
      exact h)
     have HNB : Hid (NoB x p cl (4 + 0)) := hid ((HN4.out p HP.out).lists (by omega))
     have hbn := (Below.refl w9.heap.size w9).alloc (Nat.le_refl _) (.cells #[.int .i64 5,.int .i64 6] 40); have HF1 := hid (HF9.out.later hbn); have HK1 : Hid (KdW (w9.alloc (.cells #[.int .i64 5,.int .i64 6] 40)) w9.heap.size 5 (5 + 1)) := hid ⟨heap_alloc_new _ _⟩; have HB1 := hid hbn; clear hbn hM hw hcb hcn hcll HNM HCX HBR9; go_wp2_with fail
     obtain ⟨w10,hw10⟩ : ∃ z,w9.alloc (.cells #[.int .i64 5,.int .i64 6] 40) = z := ⟨_,rfl⟩; obtain ⟨g3,hg3⟩ : ∃ g,w9.heap.size = g := ⟨_,rfl⟩; rw [hw10] at HF1 HK1 HB1; rw [hg3] at HK1; rw [hw10,hg3]; clear hw10 hg3; go_loopw [62] (fun iv wr => ∃ i : Nat,iv = .int .i64 (i : Int) ∧ i ≤ 2 ∧ Hid (FdW w wr A x) ∧ Hid (KdW wr g3 5 (5 + 1)) ∧ Hid (Below w9.heap.size w9 wr) ∧ Hid (NoB x p cl (4 + i))) (fun iv _ => 2 - (intOf iv).toNat)
     case atStart => exact ⟨0,rfl,Nat.zero_le _,HF1,HK1,HB1,HNB⟩
     case round =>
      clear HF1 HK1 HB1 HNB; obtain ⟨i,rfl,hi,HF,HK,HB,HN⟩ := hrel; by_cases hit : i < 2
      ·obtain ⟨k,hk⟩ : ∃ k : Nat,k = i + 5 := ⟨_,rfl⟩
       have q0 := HK.out.at_ hit; rw [show (5 : Int) + (i : Int) = (k : Int) by omega] at q0
       have hd1 : decide ((i : Int) < 2) = true := decide_eq_true (by omega)
       have hd2 : decide (i < 2) = true := decide_eq_true hit; have HKI := hid hk; have c6 := HF.out.box.cells.2.2.2.2.2.2.1; clear hk; by_cases hi0 : i = 0
       ·have hk6 : ((k : Int) == 6) = false := by have := HKI.out; simp; omega
        have HI0 := hid hi0; clear hi0; have HBD0 : Hid (BestD x.cus.length (Z17 x p) 0 0 0 0) := hid BestD.zero; go_wp2_with fail
        rw [HWW.out]; clear c6 q0; go_loopw [15,16,17,70] (fun bv sv fv zv wr => ∃ (z best : Nat) (sh few : Int),bv = .int .i64 (best : Int) ∧ sv = .int .i64 sh ∧ fv = .int .i64 few ∧ zv = .int .i64 (z : Int) ∧ z ≤ M ∧ Hid (BestD x.cus.length (Z17 x p) z best sh few) ∧ Hid (FdW w wr A x) ∧ Hid (KdW wr g3 5 (5 + 1)) ∧ Hid (Below w9.heap.size w9 wr)) (fun _ _ _ zv _ => M - (intOf zv).toNat)
        case atStart => exact ⟨0,0,0,0,rfl,rfl,rfl,rfl,Nat.zero_le _,HBD0,HF,HK,HB⟩
        case round =>
         clear HBD0 HF HK HB; obtain ⟨z,best,sh,few,rfl,rfl,rfl,rfl,hz,HBD,HF,HK,HB⟩ := hrel; by_cases hzt : z < M
         ·obtain ⟨c0,c1,c2,c3,c4,c5,c6,c7,c8⟩ := HF.out.box.cells
          have HZ64 := hid (show z < 64 by omega)
          have hzw : IntKind.u64.wrap (z : Int) = (z : Int) := by rw [IntKind.wrap_u64]; omega
          go_wp2_with fail
          refine (HSH.out _ z HF.out HB.out HZ64.out).mono ?_; rintro e w6 ⟨rfl,hb6⟩; have HF6 := hid (HF.out.later hb6); have HK6 := hid (HK.out.later hb6); have HB6 := hid (HB.out.trans (hb6.mono HB.out.size)); obtain ⟨dl,hdl⟩ : ∃ v,Z17 x p z = v := ⟨_,rfl⟩; obtain ⟨dc,hdc⟩ : ∃ v,Z1q x p cl z = v := ⟨_,rfl⟩; obtain ⟨sz,hsz⟩ : ∃ v,sizeZ x.cus.length z = v := ⟨_,rfl⟩; have HLZ := hid (fun W => HLN.out W z hzt); have HDZ : Hid ((Z17 x p) z = dl) := hid (by first | exact hdl | exact hdc)
          have HSZ := hid hsz; rw [hdl,hdc]; rw [hsz] at HLZ; clear c0 c1 c2 c3 c4 c5 c6 c7 c8 hb6 hdl hdc hsz; by_cases g1 : sh < dl
          ·have HBN : Hid (BestD x.cus.length (Z17 x p) (z + 1) z dl sz) := hid (by
            have h := HBD.out.up (by rw [HDZ.out]; exact g1)
            rw [HDZ.out,HSZ.out] at h; exact h)
           have e1 : decide (sh < dl) = true := decide_eq_true g1; go_wp2_with (go_at_call 25; refine (HLZ.out _).mono ?_; rintro e w11 ⟨rfl,rfl⟩)
           go_roundw
           case rel => exact ⟨z + 1,z,dl,sz,rfl,rfl,rfl,by go_num,by omega,HBN,HF6,HK6,HB6⟩
           case measure => simp [intOf]; omega
          ·have e1 : decide (sh < dl) = false := decide_eq_false g1
           by_cases g2 : dl = sh
           ·have e2 : (dl == sh) = true := by simpa using g2
            by_cases g3 : 0 < dl
            ·have e3 : decide (0 < dl) = true := decide_eq_true g3
             by_cases g4 : sz < few
             ·have e4 : decide (sz < few) = true := decide_eq_true g4
              have HBN : Hid (BestD x.cus.length (Z17 x p) (z + 1) z dl sz) := hid (by
               have h := HBD.out.fewer (by rw [HDZ.out]; exact g2) (by rw [HDZ.out]; exact g3) (by rw [HSZ.out]; exact g4)
               rw [HDZ.out,HSZ.out] at h; exact h)
              clear g2; go_wp2_with (go_at_call 25; refine (HLZ.out _).mono ?_; rintro e w11 ⟨rfl,rfl⟩)
              go_roundw
              case rel => exact ⟨z + 1,z,dl,sz,rfl,rfl,rfl,by go_num,by omega,HBN,HF6,HK6,HB6⟩
              case measure => simp [intOf]; omega
             ·have e4 : decide (sz < few) = false := decide_eq_false g4
              have HBN := hid (HBD.out.stay (by rw [HDZ.out]; exact g1) (by rw [HSZ.out]; omega))
              clear g2; go_wp2_with (go_at_call 25; refine (HLZ.out _).mono ?_; rintro e w11 ⟨rfl,rfl⟩)
              go_roundw
              case rel => exact ⟨z + 1,best,sh,few,rfl,rfl,rfl,by go_num,by omega,HBN,HF6,HK6,HB6⟩
              case measure => simp [intOf]; omega
            ·have e3 : decide (0 < dl) = false := decide_eq_false g3
             have HBN := hid (HBD.out.stay (by rw [HDZ.out]; exact g1) (by rw [HDZ.out]; omega))
             clear g2; go_wp2_with (go_at_call 25; refine (HLZ.out _).mono ?_; rintro e w11 ⟨rfl,rfl⟩)
             go_roundw
             case rel => exact ⟨z + 1,best,sh,few,rfl,rfl,rfl,by go_num,by omega,HBN,HF6,HK6,HB6⟩
             case measure => simp [intOf]; omega
           ·have e2 : (dl == sh) = false := by simpa using g2
            have HBN := hid (HBD.out.stay (by rw [HDZ.out]; exact g1) (by rw [HDZ.out]; omega))
            clear g2; go_wp2_with (go_at_call 25; refine (HLZ.out _).mono ?_; rintro e w11 ⟨rfl,rfl⟩)
            go_roundw
            case rel => exact ⟨z + 1,best,sh,few,rfl,rfl,rfl,by go_num,by omega,HBN,HF6,HK6,HB6⟩
            case measure => simp [intOf]; omega
         ·obtain rfl : z = M := by omega
          have hbs := HBD.out.sh_; have HBM : Hid (BestD x.cus.length (Z17 x p) (2 ^ x.cus.length) best sh few) := hid (by rw [HMM.out]; exact HBD.out)
          by_cases hp0 : 0 < sh
          ·have e1 : decide (0 < sh) = true := decide_eq_true hp0
           have hzw : IntKind.u64.wrap (best : Int) = (best : Int) := by rw [IntKind.wrap_u64]; omega
           have HFO : Hid (FoundX x k 0 best) := hid ⟨p,cl,HP.out,HCO.out,.inr ⟨.inr (.inr (.inr (.inr (.inl ⟨by have := HKI.out; have := HI0.out; omega,rfl,HBM.out.best_ hp0⟩)))),by have h := HN.out; rw [show k - 1 = 4 + i by have := HKI.out; omega]; exact h⟩⟩
           obtain ⟨d0,d1,d2,d3⟩ := HF.out.cells; go_wp2_with fail
           obtain ⟨r0,r1,r2,hbl⟩ := HF.out.done (.int .i64 (k : Int)) (.int .i64 0) (.int .u64 (best : Int)); have hkz : decide (k ≠ 0) = true := decide_eq_true (by have := HKI.out; omega)
           refine bodyPost_ret (v := .tuple #[blkC (k : Int) 0 (best : Int),.bool true]) ?_ rfl ⟨k,0,best,by rw [hkz]; rfl,HFO.out,hbl⟩
           simp [results,Tryz.results13,go_sem,r0,r1,r2]
          ·have e1 : decide (0 < sh) = false := decide_eq_false hp0
           have HNN : Hid (NoB x p cl (4 + (i + 1))) := hid (by
            have h := HN.out; have hi0 : i = 0 := by have := HI0.out; omega
            rw [hi0] at h ⊢; exact NoB.loads h (HBM.out.none_ hp0))
           go_wp2_with fail
           go_roundw
           case rel => exact ⟨i + 1,by go_num,by omega,HF,HK,HB,HNN⟩
           case measure => simp [intOf]; omega
       ·have hk6 : ((k : Int) == 6) = true := by have := HKI.out; simp; omega
        have HI0 := hid hi0; clear hi0; have HBD0 : Hid (BestD x.cus.length (Z1q x p cl) 0 0 0 0) := hid BestD.zero; go_wp2_with fail
        rw [HWW.out]; clear c6 q0; go_loopw [15,16,17,70] (fun bv sv fv zv wr => ∃ (z best : Nat) (sh few : Int),bv = .int .i64 (best : Int) ∧ sv = .int .i64 sh ∧ fv = .int .i64 few ∧ zv = .int .i64 (z : Int) ∧ z ≤ M ∧ Hid (BestD x.cus.length (Z1q x p cl) z best sh few) ∧ Hid (FdW w wr A x) ∧ Hid (KdW wr g3 5 (5 + 1)) ∧ Hid (Below w9.heap.size w9 wr)) (fun _ _ _ zv _ => M - (intOf zv).toNat)
        case atStart => exact ⟨0,0,0,0,rfl,rfl,rfl,rfl,Nat.zero_le _,HBD0,HF,HK,HB⟩
        case round =>
         clear HBD0 HF HK HB; obtain ⟨z,best,sh,few,rfl,rfl,rfl,rfl,hz,HBD,HF,HK,HB⟩ := hrel; by_cases hzt : z < M
         ·obtain ⟨c0,c1,c2,c3,c4,c5,c6,c7,c8⟩ := HF.out.box.cells
          have HZ64 := hid (show z < 64 by omega)
          have hzw : IntKind.u64.wrap (z : Int) = (z : Int) := by rw [IntKind.wrap_u64]; omega
          go_wp2_with fail
          refine (HSH.out _ z HF.out HB.out HZ64.out).mono ?_; rintro e w6 ⟨rfl,hb6⟩; have HF6 := hid (HF.out.later hb6); have HK6 := hid (HK.out.later hb6); have HB6 := hid (HB.out.trans (hb6.mono HB.out.size)); obtain ⟨dl,hdl⟩ : ∃ v,Z17 x p z = v := ⟨_,rfl⟩; obtain ⟨dc,hdc⟩ : ∃ v,Z1q x p cl z = v := ⟨_,rfl⟩; obtain ⟨sz,hsz⟩ : ∃ v,sizeZ x.cus.length z = v := ⟨_,rfl⟩; have HLZ := hid (fun W => HLN.out W z hzt); have HDZ : Hid ((Z1q x p cl) z = dc) := hid (by first | exact hdl | exact hdc)
          have HSZ := hid hsz; rw [hdl,hdc]; rw [hsz] at HLZ; clear c0 c1 c2 c3 c4 c5 c6 c7 c8 hb6 hdl hdc hsz; by_cases g1 : sh < dc
          ·have HBN : Hid (BestD x.cus.length (Z1q x p cl) (z + 1) z dc sz) := hid (by
            have h := HBD.out.up (by rw [HDZ.out]; exact g1)
            rw [HDZ.out,HSZ.out] at h; exact h)
           have e1 : decide (sh < dc) = true := decide_eq_true g1; go_wp2_with (go_at_call 25; refine (HLZ.out _).mono ?_; rintro e w11 ⟨rfl,rfl⟩)
           go_roundw
           case rel => exact ⟨z + 1,z,dc,sz,rfl,rfl,rfl,by go_num,by omega,HBN,HF6,HK6,HB6⟩
           case measure => simp [intOf]; omega
          ·have e1 : decide (sh < dc) = false := decide_eq_false g1
           by_cases g2 : dc = sh
           ·have e2 : (dc == sh) = true := by simpa using g2
            by_cases g3 : 0 < dc
            ·have e3 : decide (0 < dc) = true := decide_eq_true g3
             by_cases g4 : sz < few
             ·have e4 : decide (sz < few) = true := decide_eq_true g4
              have HBN : Hid (BestD x.cus.length (Z1q x p cl) (z + 1) z dc sz) := hid (by
               have h := HBD.out.fewer (by rw [HDZ.out]; exact g2) (by rw [HDZ.out]; exact g3) (by rw [HSZ.out]; exact g4)
               rw [HDZ.out,HSZ.out] at h; exact h)
              clear g2; go_wp2_with (go_at_call 25; refine (HLZ.out _).mono ?_; rintro e w11 ⟨rfl,rfl⟩)
              go_roundw
              case rel => exact ⟨z + 1,z,dc,sz,rfl,rfl,rfl,by go_num,by omega,HBN,HF6,HK6,HB6⟩
              case measure => simp [intOf]; omega
             ·have e4 : decide (sz < few) = false := decide_eq_false g4
              have HBN := hid (HBD.out.stay (by rw [HDZ.out]; exact g1) (by rw [HSZ.out]; omega))
              clear g2; go_wp2_with (go_at_call 25; refine (HLZ.out _).mono ?_; rintro e w11 ⟨rfl,rfl⟩)
              go_roundw
              case rel => exact ⟨z + 1,best,sh,few,rfl,rfl,rfl,by go_num,by omega,HBN,HF6,HK6,HB6⟩
              case measure => simp [intOf]; omega
            ·have e3 : decide (0 < dc) = false := decide_eq_false g3
             have HBN := hid (HBD.out.stay (by rw [HDZ.out]; exact g1) (by rw [HDZ.out]; omega))
             clear g2; go_wp2_with (go_at_call 25; refine (HLZ.out _).mono ?_; rintro e w11 ⟨rfl,rfl⟩)
             go_roundw
             case rel => exact ⟨z + 1,best,sh,few,rfl,rfl,rfl,by go_num,by omega,HBN,HF6,HK6,HB6⟩
             case measure => simp [intOf]; omega
           ·have e2 : (dc == sh) = false := by simpa using g2
            have HBN := hid (HBD.out.stay (by rw [HDZ.out]; exact g1) (by rw [HDZ.out]; omega))
            clear g2; go_wp2_with (go_at_call 25; refine (HLZ.out _).mono ?_; rintro e w11 ⟨rfl,rfl⟩)
            go_roundw
            case rel => exact ⟨z + 1,best,sh,few,rfl,rfl,rfl,by go_num,by omega,HBN,HF6,HK6,HB6⟩
            case measure => simp [intOf]; omega
         ·obtain rfl : z = M := by omega
          have hbs := HBD.out.sh_; have HBM : Hid (BestD x.cus.length (Z1q x p cl) (2 ^ x.cus.length) best sh few) := hid (by rw [HMM.out]; exact HBD.out)
          by_cases hp0 : 0 < sh
          ·have e1 : decide (0 < sh) = true := decide_eq_true hp0
           have hzw : IntKind.u64.wrap (best : Int) = (best : Int) := by rw [IntKind.wrap_u64]; omega
           have HFO : Hid (FoundX x k 0 best) := hid ⟨p,cl,HP.out,HCO.out,.inr ⟨.inr (.inr (.inr (.inr (.inr ⟨by have := HKI.out; have := HI0.out; omega,rfl,HBM.out.best_ hp0⟩)))),by have h := HN.out; rw [show k - 1 = 4 + i by have := HKI.out; omega]; exact h⟩⟩
           obtain ⟨d0,d1,d2,d3⟩ := HF.out.cells; go_wp2_with fail
           obtain ⟨r0,r1,r2,hbl⟩ := HF.out.done (.int .i64 (k : Int)) (.int .i64 0) (.int .u64 (best : Int)); have hkz : decide (k ≠ 0) = true := decide_eq_true (by have := HKI.out; omega)
           refine bodyPost_ret (v := .tuple #[blkC (k : Int) 0 (best : Int),.bool true]) ?_ rfl ⟨k,0,best,by rw [hkz]; rfl,HFO.out,hbl⟩
           simp [results,Tryz.results13,go_sem,r0,r1,r2]
          ·have e1 : decide (0 < sh) = false := decide_eq_false hp0
           have HNN : Hid (NoB x p cl (4 + (i + 1))) := hid (by
            have h := HN.out; have hi0 : i = 1 := by have := HI0.out; omega
            rw [hi0] at h ⊢; exact NoB.counts h (HBM.out.none_ hp0))
           go_wp2_with fail
           go_roundw
           case rel => exact ⟨i + 1,by go_num,by omega,HF,HK,HB,HNN⟩
           case measure => simp [intOf]; omega
      ·have HN6 : Hid (NoB x p cl 6) := hid (by have h := HN.out; rw [show i = 2 by omega] at h; exact h)
       have hdf : decide ((i : Int) < 2) = false := decide_eq_false (by omega)
       have hdf2 : decide (i < 2) = false := decide_eq_false (by omega)
       have HFO : Hid (FoundX x 0 0 0) := hid ⟨p,cl,HP.out,HCO.out,.inl ⟨rfl,rfl,rfl,HN6.out⟩⟩; obtain ⟨d0,d1,d2,d3⟩ := HF.out.cells; go_wp2_with fail
       obtain ⟨r0,r1,r2,hbl⟩ := HF.out.done (.int .i64 0) (.int .i64 0) (.int .u64 0); refine bodyPost_ret (v := .tuple #[blkC 0 0 0,.bool false]) ?_ rfl ⟨0,0,0,rfl,HFO.out,hbl⟩; simp [results,Tryz.results13,go_sem,r0,r1,r2]
end Go.Proofs.YtfkommjlmolniaaGreatDoor
end
