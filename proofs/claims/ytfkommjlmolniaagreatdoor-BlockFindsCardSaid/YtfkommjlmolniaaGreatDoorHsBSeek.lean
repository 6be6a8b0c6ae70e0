/- Joined: BSeek. -/
import Derived.Test.YtfkommjlmolniaaGreatDoorHd24
import Derived.Test.YtfkommjlmolniaaGreatDoorHd3
import Derived.Maps.RangeWalk
import Derived.Test.YtfkommjlmolniaaGreatDoorHd6
set_option linter.unusedVariables false
section

namespace Go.Proofs.YtfkommjlmolniaaGreatDoor
set_option maxHeartbeats 16000000
set_option maxRecDepth 100000
open Go.Lib (hid)
open Go.RowKit
variable {w wr w2 : World} {V : VA} {y : Vw} {B g c s z t n who : Nat} {f : Nat → Bool} {x : Ins} {p : Nat → Nat → Bool} {l : List Int} {k : Nat}
def NoK (x : Ins) (p : Nat → Nat → Bool) (l : List Int) (k : Nat) : Prop :=
 (k = 1 → ∀ c,¬ BigB x c) ∧ (k = 2 → ∀ c,¬ LateB x p c) ∧ (k = 3 → ¬ x.tm * x.tr < Z27 x) ∧ (k = 4 → ¬ x.bm * x.br < Z27 x) ∧ (k = 5 → Z2e x.cus.length (Z17 x p)) ∧ (k = 6 → Z2e x.cus.length (Z1q x p l))
theorem NoB.more (h : NoB x p l k) (h2 : NoK x p l (k + 1)) : NoB x p l (k + 1) :=
 ⟨fun e => by by_cases q : 1 ≤ k; exact h.1 q; exact h2.1 (by omega),fun e => by by_cases q : 2 ≤ k; exact h.2.1 q; exact h2.2.1 (by omega),fun e => by by_cases q : 3 ≤ k; exact h.2.2.1 q; exact h2.2.2.1 (by omega),fun e => by by_cases q : 4 ≤ k; exact h.2.2.2.1 q; exact h2.2.2.2.1 (by omega),fun e => by by_cases q : 5 ≤ k; exact h.2.2.2.2.1 q; exact h2.2.2.2.2.1 (by omega),fun e => by by_cases q : 6 ≤ k; exact h.2.2.2.2.2 q; exact h2.2.2.2.2.2 (by omega)⟩
theorem Z9f : Z17 y.x y.p = Z0r y.x.cus.length y.x.sats.length y.p (needI y.x 5) (Z0e y 5) := by
 have e1 : needI y.x 5 = ldI y.x := funext fun c => if_pos rfl; have e2 : Z0e y 5 = roomI y.x := funext fun c => if_pos rfl; rw [e1,e2]; rfl
theorem Z9g : Z1q y.x y.p y.cs = Z0r y.x.cus.length y.x.sats.length y.p (needI y.x 6) (Z0e y 6) := by
 have e1 : needI y.x 6 = fun _ => 1 := funext fun c => if_neg (by decide)
 have e2 : Z0e y 6 = fun s => y.cs.getD s 0 := funext fun c => if_neg (by decide)
 rw [e1,e2]; rfl
theorem Z5g {C : Nat} (h : z < 2 ^ C) : custB C z = true := by
 unfold custB; rw [List.all_eq_true]; intro c hc; have h1 := ((Z2l z c).1 hc).2; rcases Nat.lt_or_ge c C with h2 | h2
 ·exact decide_eq_true h2
 ·rw [Z4q h h2] at h1; cases h1
def SeekP (y : Vw) (k : Nat) (w : World) (e : Ending) (w' : World) : Prop := ∃ (who z : Nat) (b : Bool),e = .returned (.tuple #[blkC (k : Int) (who : Int) (z : Int),.bool b]) ∧ (b = true → FirstB y.x y.p y.cs k who z) ∧ (b = false → NoK y.x y.p y.cs k) ∧ Below w.heap.size w w'
structure SBx (w wr : World) (V : VA) (y : Vw) (k who z : Int) : Prop where
 bx : VBox w wr w.heap.size V y
 res : wr.heap[w.heap.size + 1]? = some (.cells #[.int .i64 0,.int .i64 0,.int .u64 0] 44 (0,0))
 blk : wr.heap[w.heap.size + 2]? = some (.cells #[.int .i64 k,.int .i64 who,.int .u64 z] 44 (0,0))
theorem SBx.make (w : World) (V : VA) (y : Vw) (k who z : Int) : SBx w (((w.alloc (.cells (viewC V y) 65)).alloc (.cells #[.int .i64 0,.int .i64 0,.int .u64 0] 44)).alloc (.cells #[.int .i64 k,.int .i64 who,.int .u64 z] 44)) V y k who z := by
 have h := RBox.make w V y 0 0 0; have hz1 : ((w.alloc (.cells (viewC V y) 65)).alloc (.cells #[.int .i64 0,.int .i64 0,.int .u64 0] 44)).heap.size = w.heap.size + 2 := by simp
 have h2 := h.later (Z0g _ (.cells #[.int .i64 k,.int .i64 who,.int .u64 z] 44)); have hR := heap_alloc_new ((w.alloc (.cells (viewC V y) 65)).alloc (.cells #[.int .i64 0,.int .i64 0,.int .u64 0] 44)) (.cells #[.int .i64 k,.int .i64 who,.int .u64 z] 44); rw [hz1] at hR; exact ⟨h2.bx,h2.blk,hR⟩
theorem SBx.later {k who z : Int} (h : SBx w wr V y k who z) (hb : Below wr.heap.size wr w2) : SBx w w2 V y k who z := ⟨h.bx.later hb,(hb.block _ (Array.getElem?_eq_some_iff.1 h.res).1).trans h.res,(hb.block _ (Array.getElem?_eq_some_iff.1 h.blk).1).trans h.blk⟩
theorem Z0y {a b d : Value} {T : TypeId} (h : wr.heap[g]? = some (.cells #[a,b,d] T (0,0))) : wr.cell? ⟨g,0,none⟩ = some a ∧ wr.cell? ⟨g,1,none⟩ = some b ∧ wr.cell? ⟨g,2,none⟩ = some d := by simp [World.cell?,h]
theorem Z0l {cs : Array Value} {T : TypeId} (h : wr.heap[g]? = some (.cells cs T (0,0))) (k : Nat) : wr.frozen? ⟨g,k,none⟩ = false := by simp [World.frozen?,h]
theorem SBx.putw {k who z : Int} (h : SBx w wr V y k who z) (m : Int) : SBx w (wr.setCell ⟨w.heap.size + 2,1,none⟩ (.int .i64 m)) V y k m z :=
 ⟨⟨h.bx.below.setCell (p := ⟨w.heap.size + 2,1,none⟩) (show w.heap.size ≤ w.heap.size + 2 by omega) _,h.bx.ge,(heap_setCell_other _ _ _ _ (show w.heap.size ≠ w.heap.size + 2 by omega)).trans h.bx.blk⟩,(heap_setCell_other _ _ _ _ (show w.heap.size + 1 ≠ w.heap.size + 2 by omega)).trans h.res,heap_setCell_same _ _ _ _ _ _ h.blk⟩
theorem SBx.putz {k who z : Int} (h : SBx w wr V y k who z) (m : Int) : SBx w (wr.setCell ⟨w.heap.size + 2,2,none⟩ (.int .u64 m)) V y k who m :=
 ⟨⟨h.bx.below.setCell (p := ⟨w.heap.size + 2,2,none⟩) (show w.heap.size ≤ w.heap.size + 2 by omega) _,h.bx.ge,(heap_setCell_other _ _ _ _ (show w.heap.size ≠ w.heap.size + 2 by omega)).trans h.bx.blk⟩,(heap_setCell_other _ _ _ _ (show w.heap.size + 1 ≠ w.heap.size + 2 by omega)).trans h.res,heap_setCell_same _ _ _ _ _ _ h.blk⟩
theorem SBx.done {k who z : Int} (h : SBx w wr V y k who z) (a b : Int) (d : Int) :
  (((wr.setCell ⟨w.heap.size + 1,0,none⟩ (.int .i64 a)).setCell ⟨w.heap.size + 1,1,none⟩ (.int .i64 b)).setCell ⟨w.heap.size + 1,2,none⟩ (.int .u64 d)).heap[w.heap.size + 1]? = some (.cells #[.int .i64 a,.int .i64 b,.int .u64 d] 44 (0,0)) ∧
  Below w.heap.size w (((wr.setCell ⟨w.heap.size + 1,0,none⟩ (.int .i64 a)).setCell ⟨w.heap.size + 1,1,none⟩ (.int .i64 b)).setCell ⟨w.heap.size + 1,2,none⟩ (.int .u64 d)) :=
 ⟨heap_setCell_same _ _ 2 _ _ _ (heap_setCell_same _ _ 1 _ _ _ (heap_setCell_same _ _ 0 _ _ _ h.res)),((h.bx.below.setCell (p := ⟨w.heap.size + 1,0,none⟩) (show w.heap.size ≤ w.heap.size + 1 by omega) _).setCell (p := ⟨w.heap.size + 1,1,none⟩) (show w.heap.size ≤ w.heap.size + 1 by omega) _).setCell (p := ⟨w.heap.size + 1,2,none⟩) (show w.heap.size ≤ w.heap.size + 1 by omega) _⟩
theorem SBx.keep {k who z : Int} (h : SBx w wr V y k who z) (a b d : Value) :
  (((wr.setCell ⟨w.heap.size + 1,0,none⟩ a).setCell ⟨w.heap.size + 1,1,none⟩ b).setCell ⟨w.heap.size + 1,2,none⟩ d).heap[w.heap.size]? = some (.cells (viewC V y) 65 (0,0)) ∧
  (((wr.setCell ⟨w.heap.size + 1,0,none⟩ a).setCell ⟨w.heap.size + 1,1,none⟩ b).setCell ⟨w.heap.size + 1,2,none⟩ d).heap[w.heap.size + 2]? = some (.cells #[.int .i64 k,.int .i64 who,.int .u64 z] 44 (0,0)) := by
 have hm : Mod (fun b => b = w.heap.size + 1) wr (((wr.setCell ⟨w.heap.size + 1,0,none⟩ a).setCell ⟨w.heap.size + 1,1,none⟩ b).setCell ⟨w.heap.size + 1,2,none⟩ d) := (((Mod.refl (fun b => b = w.heap.size + 1) wr).setCell (p := ⟨w.heap.size + 1,0,none⟩) (.inr rfl) _).setCell (p := ⟨w.heap.size + 1,1,none⟩) (.inr rfl) _).setCell (p := ⟨w.heap.size + 1,2,none⟩) (.inr rfl) _; exact ⟨(hm.block _ (Array.getElem?_eq_some_iff.1 h.bx.blk).1 (by omega)).trans h.bx.blk,(hm.block _ (Array.getElem?_eq_some_iff.1 h.blk).1 (by omega)).trans h.blk⟩
theorem Z0n {P : Program} {md : Region.Mode} {ops : Array Oper} {Q : Exit → Act → World → Prop} {S : World → Prop} (i : Nat) {oi : Oper} {v : Value} {fuel : Nat} {listed : Array Bool} {a : Act} {w : World} (hS : S w) (h : wpAnyH P md ops Q S fuel (listed.setIfInBounds i true) (a.put oi.dst v) w) (hi : ops[i]? = some oi := by exact rfl) (hs : Region.noSelect ops = true := by kernel_rfl) (hf : Region.free md ops listed i = true := by kernel_rfl) (hr : (Region.ready md ops listed).contains i = true := by kernel_rfl) (hQ : ∀ c a w,Q (.panic c) (a.put oi.dst v) w → Q (.panic c) a w := by exact fun _ _ _ h => h) (hw : Region.wanted oi (yielded ops a.tmps) = true := by rfl) (y : ∀ w,S w → (execOp a.eval oi).run P w = .ok (.value v) w := by intro Wz hWz; obtain ⟨c0,c1,c2,c3,c4,c5,c6,c7,c8,c9,c10⟩ := Z0c hWz.1; obtain ⟨d0,d1,d2⟩ := Z0y hWz.2; clear hWz; go_simp; (try with_reducible rfl)) : wpAnyH P md ops Q S (fuel + 1) listed a w := stpT i hS h hi hs hf hr hQ hw y
theorem Zjz (V : VA) (y : Vw) (w : World) (hi : IsView w.heap.size w V y) (ht : TabD w) (ho : y.Ok) :
  Calls Tryz.prog 22 #[.agg (viewC V y),.int .i64 1] w (SeekP y 1 w) := by
 have HB0 := hid (SBx.make w V y 1 0 0); have HI := hid hi; have HT := hid ht; have HO := hid ho; have hns := ho.may.ns; have hnc := ho.may.nc; have hz1 : ((w.alloc (.cells (viewC V y) 65)).alloc (.cells #[.int .i64 0,.int .i64 0,.int .u64 0] 44)).heap.size = w.heap.size + 2 := by simp
 obtain ⟨W0,hW0⟩ : ∃ W9,((w.alloc (.cells (viewC V y) 65)).alloc (.cells #[.int .i64 0,.int .i64 0,.int .u64 0] 44)).alloc (.cells #[.int .i64 1,.int .i64 0,.int .u64 0] 44) = W9 := ⟨_,rfl⟩; rw [hW0] at HB0; have HW0 := hid hW0; have HZ1 := hid hz1; clear hi ht ho hW0 hz1; unfold viewC at HW0 HZ1; unfold viewC; go_enter Tryz.func22,Tryz.ntmps22
 go_upto_region 2 with fail
 rw [HW0.out]; try rw [HZ1.out]
 try rw [show w.heap.size + 1 + 1 = w.heap.size + 2 from rfl]
 clear HW0 HZ1
 
 go_wp2_with fail
 go_loopw [] (fun wr => ∃ c : Nat,c < y.x.cus.length ∧ Hid (∀ q,q < c → ¬ BigB y.x q) ∧ Hid (SBx w wr V y 1 (c : Int) 0)) (fun wr => y.x.cus.length - (intOf ((wr.cell? ⟨w.heap.size + 2,1,none⟩).getD undef)).toNat)
 case atStart => exact ⟨0,by omega,hid (fun q hq => absurd hq (by omega)),HB0⟩
 case round =>
  obtain ⟨c,hc,HN,HB⟩ := hrel; clear HB0; have HC := hid hc; obtain ⟨c0,c1,c2,c3,c4,c5,c6,c7,c8,c9,c10⟩ := Z0c HB.out.bx.blk; obtain ⟨d0,d1,d2⟩ := Z0y HB.out.blk; have hw1 : wrap64 ((c : Int) + 1) = (c : Int) + 1 := IntWalk.wrap64_in _ (by omega)
  by_cases hl : c + 1 < y.x.cus.length
  ·have hl1 : (c : Int) + 1 < (y.x.cus.length : Int) := by omega
   have hl2 : decide ((c : Int) + 1 < (y.x.cus.length : Int)) = true := decide_eq_true hl1; go_wp2_with fail
   refine (Z5p V y c hc _ (HB.out.bx.view HI.out) (Z09 HT.out HB.out.bx.below) HO.out).mono ?_; rintro e w5 ⟨rfl,hb5⟩; have HB5 := hid (HB.out.later hb5); clear hb5; obtain ⟨bv,hbv⟩ : ∃ bv,decide (y.x.br < ldI y.x c) = bv := ⟨_,rfl⟩; have HBV : Hid (bv = true ↔ BigB y.x c) := hid (by rw [← hbv,decide_eq_true_eq]; exact ⟨fun h => ⟨hc,h⟩,fun h => h.2⟩)
   rw [hbv]; clear hbv; clear c0 c1 c2 c3 c4 c5 c6 c7 c8 c9 c10 d0 d1 d2; cases bv with
   | false =>
    have HNN : Hid (¬ BigB y.x c) := hid (fun h => by have := HBV.out.2 h; cases this)
    obtain ⟨d0,d1,d2⟩ := Z0y HB5.out.blk; have f1 := Z0l HB5.out.blk 1; have HB6 := hid (HB5.out.putw ((c : Int) + 1)); go_wp2_with fail
    go_roundw
    case rel => exact ⟨c + 1,by omega,hid (fun q hq => by
     by_cases e : q = c
     ·rw [e]; exact HNN.out
     ·exact HN.out q (by omega)),HB6⟩
    case measure =>
     have h1 := (Z0y HB6.out.blk).2.1; have h2 := (Z0y HB.out.blk).2.1; rw [h1,h2]; simp [intOf]
     omega
   | true =>
    have HY : Hid (BigB y.x c) := hid (HBV.out.1 rfl); have HNN := HN; clear HBV HN HB; have HB := HB5; clear HB5; go_wp2_with fail
    have HB1 := hid (HB.out.later (Below.refl _ w5).drew); obtain ⟨v0,hv0⟩ : ∃ v9,World.drew w5 = v9 := ⟨_,rfl⟩; rw [hv0] at HB1; refine wp_region_held_drew (S := fun Wz => Wz.heap[w.heap.size]? = some (.cells (viewC V y) 65 (0,0)) ∧ Wz.heap[w.heap.size + 2]? = some (.cells #[.int .i64 1,.int .i64 (c : Int),.int .u64 0] 44 (0,0))) (by kernel_rfl) (by rw [hv0]; exact ⟨HB1.out.bx.blk,HB1.out.blk⟩) (fun hHeld => ?_)
    rw [hv0] at hHeld ⊢; clear hv0 HB; refine Z0n 0 hHeld ?_; try simp only [Act.put,layT]
    refine Z0n 1 hHeld ?_; try simp only [Act.put,layT]
    refine Z0n 2 hHeld ?_; try simp only [Act.put,layT]
    refine stpR 3 (fun K hK => ?_); go_simp; refine (Z5p V y c HC.out _ (HB1.out.bx.view HI.out) (Z09 HT.out HB1.out.bx.below) HO.out).mono ?_; rintro e v5 ⟨rfl,hb5⟩; have HB2 := hid (HB1.out.later hb5); obtain ⟨bv,hbv⟩ : ∃ bv,decide (y.x.br < ldI y.x c) = bv := ⟨_,rfl⟩; have HBV : Hid (bv = true ↔ BigB y.x c) := hid (by rw [← hbv,decide_eq_true_eq]; exact ⟨fun h => ⟨HC.out,h⟩,fun h => h.2⟩)
    rw [hbv]; clear hbv; clear hb5 HB1; refine hK.out _ _ ?_ (fun hHeld => ?_)
    ·exact ⟨HB2.out.bx.blk,HB2.out.blk⟩
    clear hK K; try simp only [Act.put,layT]
    obtain ⟨d0,d1,d2⟩ := Z0y HB2.out.res; have f0 := Z0l HB2.out.res 0; have f1 := Z0l HB2.out.res 1; have f2 := Z0l HB2.out.res 2; have HE := hid (HB2.out.done 1 (c : Int) 0); refine stpR 4 (fun K hK => ?_); go_simp; refine hK.out _ _ ?_ (fun hHeld => ?_)
    ·exact HB2.out.keep _ _ _
    clear hK K d0 d1 d2 f0 f1 f2; try simp only [Act.put,layT]
    refine stpT 5 hHeld ?_ (y := fun Wz hWz => by clear hWz; go_simp; (try with_reducible rfl))
    try simp only [Act.put,layT]
    refine wpAnyH_done (by kernel_rfl) ?_ _
    clear hHeld; go_wp2_with fail
    obtain ⟨r0,r1,r2⟩ := Z0y HE.out.1; have hall : bv = false → ∀ q,¬ BigB y.x q := fun h => by have h2 := HBV.out.2 HY.out; rw [h] at h2; cases h2
    exact bodyPost_ret (v := .tuple #[blkC 1 (c : Int) 0,.bool bv]) (by simp [results,Tryz.results22,go_sem,r0,r1,r2]) rfl ⟨c,0,bv,rfl,fun h => Or.inl ⟨rfl,rfl,HBV.out.1 h,HNN.out⟩,fun h => ⟨fun _ => hall h,by omega,by omega,by omega,by omega,by omega⟩,HE.out.2⟩
   
  ·have hl2 : decide ((c : Int) + 1 < (y.x.cus.length : Int)) = false := decide_eq_false (by omega)
   have hl1 : ¬ (c : Int) + 1 < (y.x.cus.length : Int) := by omega
   have HLL := hid hl; have HNN := HN; go_wp2_with fail
   clear c0 c1 c2 c3 c4 c5 c6 c7 c8 c9 c10 d0 d1 d2; have HB1 := hid (HB.out.later (Below.refl _ wr).drew); obtain ⟨v0,hv0⟩ : ∃ v9,World.drew wr = v9 := ⟨_,rfl⟩; rw [hv0] at HB1; refine wp_region_held_drew (S := fun Wz => Wz.heap[w.heap.size]? = some (.cells (viewC V y) 65 (0,0)) ∧ Wz.heap[w.heap.size + 2]? = some (.cells #[.int .i64 1,.int .i64 (c : Int),.int .u64 0] 44 (0,0))) (by kernel_rfl) (by rw [hv0]; exact ⟨HB1.out.bx.blk,HB1.out.blk⟩) (fun hHeld => ?_)
   rw [hv0] at hHeld ⊢; clear hv0 HB; refine Z0n 0 hHeld ?_; try simp only [Act.put,layT]
   refine Z0n 1 hHeld ?_; try simp only [Act.put,layT]
   refine Z0n 2 hHeld ?_; try simp only [Act.put,layT]
   refine stpR 3 (fun K hK => ?_); go_simp; refine (Z5p V y c HC.out _ (HB1.out.bx.view HI.out) (Z09 HT.out HB1.out.bx.below) HO.out).mono ?_; rintro e v5 ⟨rfl,hb5⟩; have HB2 := hid (HB1.out.later hb5); obtain ⟨bv,hbv⟩ : ∃ bv,decide (y.x.br < ldI y.x c) = bv := ⟨_,rfl⟩; have HBV : Hid (bv = true ↔ BigB y.x c) := hid (by rw [← hbv,decide_eq_true_eq]; exact ⟨fun h => ⟨HC.out,h⟩,fun h => h.2⟩)
   rw [hbv]; clear hbv; clear hb5 HB1; refine hK.out _ _ ?_ (fun hHeld => ?_)
   ·exact ⟨HB2.out.bx.blk,HB2.out.blk⟩
   clear hK K; try simp only [Act.put,layT]
   obtain ⟨d0,d1,d2⟩ := Z0y HB2.out.res; have f0 := Z0l HB2.out.res 0; have f1 := Z0l HB2.out.res 1; have f2 := Z0l HB2.out.res 2; have HE := hid (HB2.out.done 1 (c : Int) 0); refine stpR 4 (fun K hK => ?_); go_simp; refine hK.out _ _ ?_ (fun hHeld => ?_)
   ·exact HB2.out.keep _ _ _
   clear hK K d0 d1 d2 f0 f1 f2; try simp only [Act.put,layT]
   refine stpT 5 hHeld ?_ (y := fun Wz hWz => by clear hWz; go_simp; (try with_reducible rfl))
   try simp only [Act.put,layT]
   refine wpAnyH_done (by kernel_rfl) ?_ _
   clear hHeld; go_wp2_with fail
   obtain ⟨r0,r1,r2⟩ := Z0y HE.out.1; have hall : bv = false → ∀ q,¬ BigB y.x q := fun h q hq => by
    by_cases e : q = c
    ·rw [e] at hq; have h2 := HBV.out.2 hq; rw [h] at h2; cases h2
    ·by_cases e2 : q < c
     ·exact HNN.out q e2 hq
     ·have h3 := hq.1; have h4 := HLL.out; omega
   exact bodyPost_ret (v := .tuple #[blkC 1 (c : Int) 0,.bool bv]) (by simp [results,Tryz.results22,go_sem,r0,r1,r2]) rfl ⟨c,0,bv,rfl,fun h => Or.inl ⟨rfl,rfl,HBV.out.1 h,HNN.out⟩,fun h => ⟨fun _ => hall h,by omega,by omega,by omega,by omega,by omega⟩,HE.out.2⟩
theorem Zgu (V : VA) (y : Vw) (w : World) (hi : IsView w.heap.size w V y) (ht : TabD w) (ho : y.Ok) :
  Calls Tryz.prog 22 #[.agg (viewC V y),.int .i64 2] w (SeekP y 2 w) := by
 have HB0 := hid (SBx.make w V y 2 0 0); have HI := hid hi; have HT := hid ht; have HO := hid ho; have hns := ho.may.ns; have hnc := ho.may.nc; have hz1 : ((w.alloc (.cells (viewC V y) 65)).alloc (.cells #[.int .i64 0,.int .i64 0,.int .u64 0] 44)).heap.size = w.heap.size + 2 := by simp
 obtain ⟨W0,hW0⟩ : ∃ W9,((w.alloc (.cells (viewC V y) 65)).alloc (.cells #[.int .i64 0,.int .i64 0,.int .u64 0] 44)).alloc (.cells #[.int .i64 2,.int .i64 0,.int .u64 0] 44) = W9 := ⟨_,rfl⟩; rw [hW0] at HB0; have HW0 := hid hW0; have HZ1 := hid hz1; clear hi ht ho hW0 hz1; unfold viewC at HW0 HZ1; unfold viewC; go_enter Tryz.func22,Tryz.ntmps22
 go_upto_region 2 with fail
 rw [HW0.out]; try rw [HZ1.out]
 try rw [show w.heap.size + 1 + 1 = w.heap.size + 2 from rfl]
 clear HW0 HZ1
 
 go_wp2_with fail
 go_loopw [] (fun wr => ∃ c : Nat,c < y.x.cus.length ∧ Hid (∀ q,q < c → ¬ LateB y.x y.p q) ∧ Hid (SBx w wr V y 2 (c : Int) 0)) (fun wr => y.x.cus.length - (intOf ((wr.cell? ⟨w.heap.size + 2,1,none⟩).getD undef)).toNat)
 case atStart => exact ⟨0,by omega,hid (fun q hq => absurd hq (by omega)),HB0⟩
 case round =>
  obtain ⟨c,hc,HN,HB⟩ := hrel; clear HB0; have HC := hid hc; obtain ⟨c0,c1,c2,c3,c4,c5,c6,c7,c8,c9,c10⟩ := Z0c HB.out.bx.blk; obtain ⟨d0,d1,d2⟩ := Z0y HB.out.blk; have hw1 : wrap64 ((c : Int) + 1) = (c : Int) + 1 := IntWalk.wrap64_in _ (by omega)
  by_cases hl : c + 1 < y.x.cus.length
  ·have hl1 : (c : Int) + 1 < (y.x.cus.length : Int) := by omega
   have hl2 : decide ((c : Int) + 1 < (y.x.cus.length : Int)) = true := decide_eq_true hl1; go_wp2_with fail
   refine (Z4m V y c hc _ (HB.out.bx.view HI.out) (Z09 HT.out HB.out.bx.below) HO.out).mono ?_; rintro e w5 ⟨bv,rfl,hbv,hb5⟩; have HB5 := hid (HB.out.later hb5); clear hb5; have HBV : Hid (bv = true ↔ LateB y.x y.p c) := hid (hbv.trans ⟨fun h => ⟨hc,h⟩,fun h => h.2⟩); clear hbv; clear c0 c1 c2 c3 c4 c5 c6 c7 c8 c9 c10 d0 d1 d2; cases bv with
   | false =>
    have HNN : Hid (¬ LateB y.x y.p c) := hid (fun h => by have := HBV.out.2 h; cases this)
    obtain ⟨d0,d1,d2⟩ := Z0y HB5.out.blk; have f1 := Z0l HB5.out.blk 1; have HB6 := hid (HB5.out.putw ((c : Int) + 1)); go_wp2_with fail
    go_roundw
    case rel => exact ⟨c + 1,by omega,hid (fun q hq => by
     by_cases e : q = c
     ·rw [e]; exact HNN.out
     ·exact HN.out q (by omega)),HB6⟩
    case measure =>
     have h1 := (Z0y HB6.out.blk).2.1; have h2 := (Z0y HB.out.blk).2.1; rw [h1,h2]; simp [intOf]
     omega
   | true =>
    have HY : Hid (LateB y.x y.p c) := hid (HBV.out.1 rfl); have HNN := HN; clear HBV HN HB; have HB := HB5; clear HB5; go_wp2_with fail
    have HB1 := hid (HB.out.later (Below.refl _ w5).drew); obtain ⟨v0,hv0⟩ : ∃ v9,World.drew w5 = v9 := ⟨_,rfl⟩; rw [hv0] at HB1; refine wp_region_held_drew (S := fun Wz => Wz.heap[w.heap.size]? = some (.cells (viewC V y) 65 (0,0)) ∧ Wz.heap[w.heap.size + 2]? = some (.cells #[.int .i64 2,.int .i64 (c : Int),.int .u64 0] 44 (0,0))) (by kernel_rfl) (by rw [hv0]; exact ⟨HB1.out.bx.blk,HB1.out.blk⟩) (fun hHeld => ?_)
    rw [hv0] at hHeld ⊢; clear hv0 HB; refine Z0n 0 hHeld ?_; try simp only [Act.put,layT]
    refine Z0n 1 hHeld ?_; try simp only [Act.put,layT]
    refine Z0n 2 hHeld ?_; try simp only [Act.put,layT]
    refine stpR 3 (fun K hK => ?_); go_simp; refine (Z4m V y c HC.out _ (HB1.out.bx.view HI.out) (Z09 HT.out HB1.out.bx.below) HO.out).mono ?_; rintro e v5 ⟨bv,rfl,hbv,hb5⟩; have HB2 := hid (HB1.out.later hb5); have HBV : Hid (bv = true ↔ LateB y.x y.p c) := hid (hbv.trans ⟨fun h => ⟨HC.out,h⟩,fun h => h.2⟩); clear hbv; clear hb5 HB1; refine hK.out _ _ ?_ (fun hHeld => ?_)
    ·exact ⟨HB2.out.bx.blk,HB2.out.blk⟩
    clear hK K; try simp only [Act.put,layT]
    obtain ⟨d0,d1,d2⟩ := Z0y HB2.out.res; have f0 := Z0l HB2.out.res 0; have f1 := Z0l HB2.out.res 1; have f2 := Z0l HB2.out.res 2; have HE := hid (HB2.out.done 2 (c : Int) 0); refine stpR 4 (fun K hK => ?_); go_simp; refine hK.out _ _ ?_ (fun hHeld => ?_)
    ·exact HB2.out.keep _ _ _
    clear hK K d0 d1 d2 f0 f1 f2; try simp only [Act.put,layT]
    refine stpT 5 hHeld ?_ (y := fun Wz hWz => by clear hWz; go_simp; (try with_reducible rfl))
    try simp only [Act.put,layT]
    refine wpAnyH_done (by kernel_rfl) ?_ _
    clear hHeld; go_wp2_with fail
    obtain ⟨r0,r1,r2⟩ := Z0y HE.out.1; have hall : bv = false → ∀ q,¬ LateB y.x y.p q := fun h => by have h2 := HBV.out.2 HY.out; rw [h] at h2; cases h2
    exact bodyPost_ret (v := .tuple #[blkC 2 (c : Int) 0,.bool bv]) (by simp [results,Tryz.results22,go_sem,r0,r1,r2]) rfl ⟨c,0,bv,rfl,fun h => Or.inr (Or.inl ⟨rfl,rfl,HBV.out.1 h,HNN.out⟩),fun h => ⟨by omega,fun _ => hall h,by omega,by omega,by omega,by omega⟩,HE.out.2⟩
   
  ·have hl2 : decide ((c : Int) + 1 < (y.x.cus.length : Int)) = false := decide_eq_false (by omega)
   have hl1 : ¬ (c : Int) + 1 < (y.x.cus.length : Int) := by omega
   have HLL := hid hl; have HNN := HN; go_wp2_with fail
   clear c0 c1 c2 c3 c4 c5 c6 c7 c8 c9 c10 d0 d1 d2; have HB1 := hid (HB.out.later (Below.refl _ wr).drew); obtain ⟨v0,hv0⟩ : ∃ v9,World.drew wr = v9 := ⟨_,rfl⟩; rw [hv0] at HB1; refine wp_region_held_drew (S := fun Wz => Wz.heap[w.heap.size]? = some (.cells (viewC V y) 65 (0,0)) ∧ Wz.heap[w.heap.size + 2]? = some (.cells #[.int .i64 2,.int .i64 (c : Int),.int .u64 0] 44 (0,0))) (by kernel_rfl) (by rw [hv0]; exact ⟨HB1.out.bx.blk,HB1.out.blk⟩) (fun hHeld => ?_)
   rw [hv0] at hHeld ⊢; clear hv0 HB; refine Z0n 0 hHeld ?_; try simp only [Act.put,layT]
   refine Z0n 1 hHeld ?_; try simp only [Act.put,layT]
   refine Z0n 2 hHeld ?_; try simp only [Act.put,layT]
   refine stpR 3 (fun K hK => ?_); go_simp; refine (Z4m V y c HC.out _ (HB1.out.bx.view HI.out) (Z09 HT.out HB1.out.bx.below) HO.out).mono ?_; rintro e v5 ⟨bv,rfl,hbv,hb5⟩; have HB2 := hid (HB1.out.later hb5); have HBV : Hid (bv = true ↔ LateB y.x y.p c) := hid (hbv.trans ⟨fun h => ⟨HC.out,h⟩,fun h => h.2⟩); clear hbv; clear hb5 HB1; refine hK.out _ _ ?_ (fun hHeld => ?_)
   ·exact ⟨HB2.out.bx.blk,HB2.out.blk⟩
   clear hK K; try simp only [Act.put,layT]
   obtain ⟨d0,d1,d2⟩ := Z0y HB2.out.res; have f0 := Z0l HB2.out.res 0; have f1 := Z0l HB2.out.res 1; have f2 := Z0l HB2.out.res 2; have HE := hid (HB2.out.done 2 (c : Int) 0); refine stpR 4 (fun K hK => ?_); go_simp; refine hK.out _ _ ?_ (fun hHeld => ?_)
   ·exact HB2.out.keep _ _ _
   clear hK K d0 d1 d2 f0 f1 f2; try simp only [Act.put,layT]
   refine stpT 5 hHeld ?_ (y := fun Wz hWz => by clear hWz; go_simp; (try with_reducible rfl))
   try simp only [Act.put,layT]
   refine wpAnyH_done (by kernel_rfl) ?_ _
   clear hHeld; go_wp2_with fail
   obtain ⟨r0,r1,r2⟩ := Z0y HE.out.1; have hall : bv = false → ∀ q,¬ LateB y.x y.p q := fun h q hq => by
    by_cases e : q = c
    ·rw [e] at hq; have h2 := HBV.out.2 hq; rw [h] at h2; cases h2
    ·by_cases e2 : q < c
     ·exact HNN.out q e2 hq
     ·have h3 := hq.1; have h4 := HLL.out; omega
   exact bodyPost_ret (v := .tuple #[blkC 2 (c : Int) 0,.bool bv]) (by simp [results,Tryz.results22,go_sem,r0,r1,r2]) rfl ⟨c,0,bv,rfl,fun h => Or.inr (Or.inl ⟨rfl,rfl,HBV.out.1 h,HNN.out⟩),fun h => ⟨by omega,fun _ => hall h,by omega,by omega,by omega,by omega⟩,HE.out.2⟩
theorem Zbl (V : VA) (y : Vw) (w : World) (hi : IsView w.heap.size w V y) (ht : TabD w) (ho : y.Ok) :
  Calls Tryz.prog 22 #[.agg (viewC V y),.int .i64 3] w (SeekP y 3 w) := by
 have HB0 := hid (SBx.make w V y 3 0 0); have HI := hid hi; have HT := hid ht; have HO := hid ho; have hns := ho.may.ns; have hnc := ho.may.nc; have hz1 : ((w.alloc (.cells (viewC V y) 65)).alloc (.cells #[.int .i64 0,.int .i64 0,.int .u64 0] 44)).heap.size = w.heap.size + 2 := by simp
 obtain ⟨W0,hW0⟩ : ∃ W9,((w.alloc (.cells (viewC V y) 65)).alloc (.cells #[.int .i64 0,.int .i64 0,.int .u64 0] 44)).alloc (.cells #[.int .i64 3,.int .i64 0,.int .u64 0] 44) = W9 := ⟨_,rfl⟩; rw [hW0] at HB0; have HW0 := hid hW0; have HZ1 := hid hz1; clear hi ht ho hW0 hz1; unfold viewC at HW0 HZ1; unfold viewC; go_enter Tryz.func22,Tryz.ntmps22
 go_upto_region 2 with fail
 rw [HW0.out]; try rw [HZ1.out]
 try rw [show w.heap.size + 1 + 1 = w.heap.size + 2 from rfl]
 clear HW0 HZ1; have HB := HB0; clear HB0; go_wp2_with fail
 have HB1 := hid (HB.out.later (Below.refl _ W0).drew); obtain ⟨v0,hv0⟩ : ∃ v9,World.drew W0 = v9 := ⟨_,rfl⟩; rw [hv0] at HB1; refine wp_region_held_drew (S := fun Wz => Wz.heap[w.heap.size]? = some (.cells (viewC V y) 65 (0,0)) ∧ Wz.heap[w.heap.size + 2]? = some (.cells #[.int .i64 3,.int .i64 0,.int .u64 0] 44 (0,0))) (by kernel_rfl) (by rw [hv0]; exact ⟨HB1.out.bx.blk,HB1.out.blk⟩) (fun hHeld => ?_)
 rw [hv0] at hHeld ⊢; clear hv0 HB; refine Z0n 0 hHeld ?_; try simp only [Act.put,layT]
 refine Z0n 1 hHeld ?_; try simp only [Act.put,layT]
 refine Z0n 2 hHeld ?_; try simp only [Act.put,layT]
 refine stpR 3 (fun K hK => ?_); go_simp; refine (Z98 V y _ (HB1.out.bx.view HI.out) (Z09 HT.out HB1.out.bx.below) HO.out).mono ?_; rintro e v5 ⟨rfl,hb5⟩; have HB2 := hid (HB1.out.later hb5); clear hb5 HB1; refine hK.out _ _ ?_ (fun hHeld => ?_)
 ·exact ⟨HB2.out.bx.blk,HB2.out.blk⟩
 clear hK K; try simp only [Act.put,layT]
 obtain ⟨d0,d1,d2⟩ := Z0y HB2.out.res; have f0 := Z0l HB2.out.res 0; have f1 := Z0l HB2.out.res 1; have f2 := Z0l HB2.out.res 2; have HE := hid (HB2.out.done 3 0 0); refine stpR 4 (fun K hK => ?_); go_simp; refine hK.out _ _ ?_ (fun hHeld => ?_)
 ·exact HB2.out.keep _ _ _
 clear hK K d0 d1 d2 f0 f1 f2; try simp only [Act.put,layT]
 refine stpT 5 hHeld ?_ (y := fun Wz hWz => by clear hWz; go_simp; (try with_reducible rfl))
 try simp only [Act.put,layT]
 refine wpAnyH_done (by kernel_rfl) ?_ _
 clear hHeld; go_wp2_with fail
 obtain ⟨r0,r1,r2⟩ := Z0y HE.out.1; exact bodyPost_ret (v := .tuple #[blkC 3 0 0,.bool (decide (y.x.tm * y.x.tr < Z27 y.x))]) (by simp [results,Tryz.results22,go_sem,r0,r1,r2]) rfl ⟨0,0,_,rfl,fun h => Or.inr (Or.inr (Or.inl ⟨rfl,rfl,rfl,of_decide_eq_true h⟩)),fun h => ⟨by omega,by omega,fun _ => of_decide_eq_false h,by omega,by omega,by omega⟩,HE.out.2⟩
theorem Zeq (V : VA) (y : Vw) (w : World) (hi : IsView w.heap.size w V y) (ht : TabD w) (ho : y.Ok) :
  Calls Tryz.prog 22 #[.agg (viewC V y),.int .i64 4] w (SeekP y 4 w) := by
 have HB0 := hid (SBx.make w V y 4 0 0); have HI := hid hi; have HT := hid ht; have HO := hid ho; have hns := ho.may.ns; have hnc := ho.may.nc; have hz1 : ((w.alloc (.cells (viewC V y) 65)).alloc (.cells #[.int .i64 0,.int .i64 0,.int .u64 0] 44)).heap.size = w.heap.size + 2 := by simp
 obtain ⟨W0,hW0⟩ : ∃ W9,((w.alloc (.cells (viewC V y) 65)).alloc (.cells #[.int .i64 0,.int .i64 0,.int .u64 0] 44)).alloc (.cells #[.int .i64 4,.int .i64 0,.int .u64 0] 44) = W9 := ⟨_,rfl⟩; rw [hW0] at HB0; have HW0 := hid hW0; have HZ1 := hid hz1; clear hi ht ho hW0 hz1; unfold viewC at HW0 HZ1; unfold viewC; go_enter Tryz.func22,Tryz.ntmps22
 go_upto_region 2 with fail
 rw [HW0.out]; try rw [HZ1.out]
 try rw [show w.heap.size + 1 + 1 = w.heap.size + 2 from rfl]
 clear HW0 HZ1; have HB := HB0; clear HB0; go_wp2_with fail
 have HB1 := hid (HB.out.later (Below.refl _ W0).drew); obtain ⟨v0,hv0⟩ : ∃ v9,World.drew W0 = v9 := ⟨_,rfl⟩; rw [hv0] at HB1; refine wp_region_held_drew (S := fun Wz => Wz.heap[w.heap.size]? = some (.cells (viewC V y) 65 (0,0)) ∧ Wz.heap[w.heap.size + 2]? = some (.cells #[.int .i64 4,.int .i64 0,.int .u64 0] 44 (0,0))) (by kernel_rfl) (by rw [hv0]; exact ⟨HB1.out.bx.blk,HB1.out.blk⟩) (fun hHeld => ?_)
 rw [hv0] at hHeld ⊢; clear hv0 HB; refine Z0n 0 hHeld ?_; try simp only [Act.put,layT]
 refine Z0n 1 hHeld ?_; try simp only [Act.put,layT]
 refine Z0n 2 hHeld ?_; try simp only [Act.put,layT]
 refine stpR 3 (fun K hK => ?_); go_simp; refine (Zbh V y _ (HB1.out.bx.view HI.out) (Z09 HT.out HB1.out.bx.below) HO.out).mono ?_; rintro e v5 ⟨rfl,hb5⟩; have HB2 := hid (HB1.out.later hb5); clear hb5 HB1; refine hK.out _ _ ?_ (fun hHeld => ?_)
 ·exact ⟨HB2.out.bx.blk,HB2.out.blk⟩
 clear hK K; try simp only [Act.put,layT]
 obtain ⟨d0,d1,d2⟩ := Z0y HB2.out.res; have f0 := Z0l HB2.out.res 0; have f1 := Z0l HB2.out.res 1; have f2 := Z0l HB2.out.res 2; have HE := hid (HB2.out.done 4 0 0); refine stpR 4 (fun K hK => ?_); go_simp; refine hK.out _ _ ?_ (fun hHeld => ?_)
 ·exact HB2.out.keep _ _ _
 clear hK K d0 d1 d2 f0 f1 f2; try simp only [Act.put,layT]
 refine stpT 5 hHeld ?_ (y := fun Wz hWz => by clear hWz; go_simp; (try with_reducible rfl))
 try simp only [Act.put,layT]
 refine wpAnyH_done (by kernel_rfl) ?_ _
 clear hHeld; go_wp2_with fail
 obtain ⟨r0,r1,r2⟩ := Z0y HE.out.1; exact bodyPost_ret (v := .tuple #[blkC 4 0 0,.bool (decide (y.x.bm * y.x.br < Z27 y.x))]) (by simp [results,Tryz.results22,go_sem,r0,r1,r2]) rfl ⟨0,0,_,rfl,fun h => Or.inr (Or.inr (Or.inr (Or.inl ⟨rfl,rfl,rfl,of_decide_eq_true h⟩))),fun h => ⟨by omega,by omega,by omega,fun _ => of_decide_eq_false h,by omega,by omega⟩,HE.out.2⟩
theorem Zgv (V : VA) (y : Vw) (w : World) (hi : IsView w.heap.size w V y) (ht : TabD w) (ho : y.Ok) :
  Calls Tryz.prog 22 #[.agg (viewC V y),.int .i64 5] w (SeekP y 5 w) := by
 have HB0 := hid (SBx.make w V y 5 0 0); have HI := hid hi; have HT := hid ht; have HO := hid ho; have hns := ho.may.ns; have hnc := ho.may.nc; have hz1 : ((w.alloc (.cells (viewC V y) 65)).alloc (.cells #[.int .i64 0,.int .i64 0,.int .u64 0] 44)).heap.size = w.heap.size + 2 := by simp
 obtain ⟨W0,hW0⟩ : ∃ W9,((w.alloc (.cells (viewC V y) 65)).alloc (.cells #[.int .i64 0,.int .i64 0,.int .u64 0] 44)).alloc (.cells #[.int .i64 5,.int .i64 0,.int .u64 0] 44) = W9 := ⟨_,rfl⟩; rw [hW0] at HB0; have HW0 := hid hW0; have HZ1 := hid hz1; clear hi ht ho hW0 hz1; unfold viewC at HW0 HZ1; unfold viewC; go_enter Tryz.func22,Tryz.ntmps22
 go_upto_region 2 with fail
 rw [HW0.out]; try rw [HZ1.out]
 try rw [show w.heap.size + 1 + 1 = w.heap.size + 2 from rfl]
 clear HW0 HZ1; obtain ⟨c0,c1,c2,c3,c4,c5,c6,c7,c8,c9,c10⟩ := Z0c HB0.out.bx.blk; go_wp2_with fail
 refine (Z74 V y 5 _ (HB0.out.bx.view HI.out) (Z09 HT.out HB0.out.bx.below) HO.out).mono ?_; rintro e w5 ⟨z,rfl,hz,hwz,hb5⟩; have HB5 := hid (HB0.out.later hb5); have HZ := hid hz; have HWZ := hid hwz; have HCU : Hid (custB y.x.cus.length z = true) := hid (by rcases hwz with h | h; exact Z5g h.lt; exact Z5g h.2)
 clear hb5 hz hwz HB0 c0 c1 c2 c3 c4 c5 c6 c7 c8 c9 c10; obtain ⟨d0,d1,d2⟩ := Z0y HB5.out.blk; have f2 := Z0l HB5.out.blk 2; have HB := hid (HB5.out.putz (z : Int)); clear HB5; go_wp2_with fail
 obtain ⟨wA,hwA⟩ : ∃ W9,w5.setCell ⟨w.heap.size + 2,2,none⟩ (.int .u64 (z : Int)) = W9 := ⟨_,rfl⟩; rw [hwA] at HB ⊢; clear hwA d0 d1 d2 f2; have HB1 := hid (HB.out.later (Below.refl _ wA).drew); obtain ⟨v0,hv0⟩ : ∃ v9,World.drew wA = v9 := ⟨_,rfl⟩; rw [hv0] at HB1; refine wp_region_held_drew (S := fun Wz => Wz.heap[w.heap.size]? = some (.cells (viewC V y) 65 (0,0)) ∧ Wz.heap[w.heap.size + 2]? = some (.cells #[.int .i64 5,.int .i64 0,.int .u64 (z : Int)] 44 (0,0))) (by kernel_rfl) (by rw [hv0]; exact ⟨HB1.out.bx.blk,HB1.out.blk⟩) (fun hHeld => ?_)
 rw [hv0] at hHeld ⊢; clear hv0 HB; refine Z0n 0 hHeld ?_; try simp only [Act.put,layT]
 refine Z0n 1 hHeld ?_; try simp only [Act.put,layT]
 refine Z0n 2 hHeld ?_; try simp only [Act.put,layT]
 refine stpR 3 (fun K hK => ?_); go_simp; refine (Zen V y z HZ.out HCU.out _ (HB1.out.bx.view HI.out) (Z09 HT.out HB1.out.bx.below) HO.out).mono ?_; rintro e v5 ⟨rfl,hb5⟩; have HB2 := hid (HB1.out.later hb5); clear hb5 HB1; refine hK.out _ _ ?_ (fun hHeld => ?_)
 ·exact ⟨HB2.out.bx.blk,HB2.out.blk⟩
 clear hK K; try simp only [Act.put,layT]
 obtain ⟨d0,d1,d2⟩ := Z0y HB2.out.res; have f0 := Z0l HB2.out.res 0; have f1 := Z0l HB2.out.res 1; have f2 := Z0l HB2.out.res 2; have HE := hid (HB2.out.done 5 0 (z : Int)); refine stpR 4 (fun K hK => ?_); go_simp; refine hK.out _ _ ?_ (fun hHeld => ?_)
 ·exact HB2.out.keep _ _ _
 clear hK K d0 d1 d2 f0 f1 f2; try simp only [Act.put,layT]
 refine stpT 5 hHeld ?_ (y := fun Wz hWz => by clear hWz; go_simp; (try with_reducible rfl))
 try simp only [Act.put,layT]
 refine wpAnyH_done (by kernel_rfl) ?_ _
 clear hHeld; go_wp2_with fail
 obtain ⟨r0,r1,r2⟩ := Z0y HE.out.1; have hbest : (decide (0 < Z0r y.x.cus.length y.x.sats.length y.p (needI y.x 5) (Z0e y 5) z)) = true → IsBest y.x.cus.length (Z17 y.x y.p) z := fun h => by
  rw [Z9f]; rcases HWZ.out with h2 | h2
  ·exact h2
  ·have h3 := of_decide_eq_true h
   have h4 := h2.1 z h2.2; omega
 have hnone : (decide (0 < Z0r y.x.cus.length y.x.sats.length y.p (needI y.x 5) (Z0e y 5) z)) = false → Z2e y.x.cus.length (Z17 y.x y.p) := fun h => by
  rw [Z9f]; rcases HWZ.out with h2 | h2
  ·exact absurd h2.pos (of_decide_eq_false h)
  ·exact h2.1
 exact bodyPost_ret (v := .tuple #[blkC 5 0 (z : Int),.bool (decide (0 < Z0r y.x.cus.length y.x.sats.length y.p (needI y.x 5) (Z0e y 5) z))]) (by simp [results,Tryz.results22,go_sem,r0,r1,r2]) rfl ⟨0,z,_,rfl,fun h => Or.inr (Or.inr (Or.inr (Or.inr (Or.inl ⟨rfl,rfl,hbest h⟩)))),fun h => ⟨by omega,by omega,by omega,by omega,fun _ => hnone h,by omega⟩,HE.out.2⟩
theorem Zer (V : VA) (y : Vw) (w : World) (hi : IsView w.heap.size w V y) (ht : TabD w) (ho : y.Ok) :
  Calls Tryz.prog 22 #[.agg (viewC V y),.int .i64 6] w (SeekP y 6 w) := by
 have HB0 := hid (SBx.make w V y 6 0 0); have HI := hid hi; have HT := hid ht; have HO := hid ho; have hns := ho.may.ns; have hnc := ho.may.nc; have hz1 : ((w.alloc (.cells (viewC V y) 65)).alloc (.cells #[.int .i64 0,.int .i64 0,.int .u64 0] 44)).heap.size = w.heap.size + 2 := by simp
 obtain ⟨W0,hW0⟩ : ∃ W9,((w.alloc (.cells (viewC V y) 65)).alloc (.cells #[.int .i64 0,.int .i64 0,.int .u64 0] 44)).alloc (.cells #[.int .i64 6,.int .i64 0,.int .u64 0] 44) = W9 := ⟨_,rfl⟩; rw [hW0] at HB0; have HW0 := hid hW0; have HZ1 := hid hz1; clear hi ht ho hW0 hz1; unfold viewC at HW0 HZ1; unfold viewC; go_enter Tryz.func22,Tryz.ntmps22
 go_upto_region 2 with fail
 rw [HW0.out]; try rw [HZ1.out]
 try rw [show w.heap.size + 1 + 1 = w.heap.size + 2 from rfl]
 clear HW0 HZ1; obtain ⟨c0,c1,c2,c3,c4,c5,c6,c7,c8,c9,c10⟩ := Z0c HB0.out.bx.blk; go_wp2_with fail
 refine (Z74 V y 6 _ (HB0.out.bx.view HI.out) (Z09 HT.out HB0.out.bx.below) HO.out).mono ?_; rintro e w5 ⟨z,rfl,hz,hwz,hb5⟩; have HB5 := hid (HB0.out.later hb5); have HZ := hid hz; have HWZ := hid hwz; have HCU : Hid (custB y.x.cus.length z = true) := hid (by rcases hwz with h | h; exact Z5g h.lt; exact Z5g h.2)
 clear hb5 hz hwz HB0 c0 c1 c2 c3 c4 c5 c6 c7 c8 c9 c10; obtain ⟨d0,d1,d2⟩ := Z0y HB5.out.blk; have f2 := Z0l HB5.out.blk 2; have HB := hid (HB5.out.putz (z : Int)); clear HB5; go_wp2_with fail
 obtain ⟨wA,hwA⟩ : ∃ W9,w5.setCell ⟨w.heap.size + 2,2,none⟩ (.int .u64 (z : Int)) = W9 := ⟨_,rfl⟩; rw [hwA] at HB ⊢; clear hwA d0 d1 d2 f2; have HB1 := hid (HB.out.later (Below.refl _ wA).drew); obtain ⟨v0,hv0⟩ : ∃ v9,World.drew wA = v9 := ⟨_,rfl⟩; rw [hv0] at HB1; refine wp_region_held_drew (S := fun Wz => Wz.heap[w.heap.size]? = some (.cells (viewC V y) 65 (0,0)) ∧ Wz.heap[w.heap.size + 2]? = some (.cells #[.int .i64 6,.int .i64 0,.int .u64 (z : Int)] 44 (0,0))) (by kernel_rfl) (by rw [hv0]; exact ⟨HB1.out.bx.blk,HB1.out.blk⟩) (fun hHeld => ?_)
 rw [hv0] at hHeld ⊢; clear hv0 HB; refine Z0n 0 hHeld ?_; try simp only [Act.put,layT]
 refine Z0n 1 hHeld ?_; try simp only [Act.put,layT]
 refine Z0n 2 hHeld ?_; try simp only [Act.put,layT]
 refine stpR 3 (fun K hK => ?_); go_simp; refine (Zbi V y z HZ.out HCU.out _ (HB1.out.bx.view HI.out) (Z09 HT.out HB1.out.bx.below) HO.out).mono ?_; rintro e v5 ⟨rfl,hb5⟩; have HB2 := hid (HB1.out.later hb5); clear hb5 HB1; refine hK.out _ _ ?_ (fun hHeld => ?_)
 ·exact ⟨HB2.out.bx.blk,HB2.out.blk⟩
 clear hK K; try simp only [Act.put,layT]
 obtain ⟨d0,d1,d2⟩ := Z0y HB2.out.res; have f0 := Z0l HB2.out.res 0; have f1 := Z0l HB2.out.res 1; have f2 := Z0l HB2.out.res 2; have HE := hid (HB2.out.done 6 0 (z : Int)); refine stpR 4 (fun K hK => ?_); go_simp; refine hK.out _ _ ?_ (fun hHeld => ?_)
 ·exact HB2.out.keep _ _ _
 clear hK K d0 d1 d2 f0 f1 f2; try simp only [Act.put,layT]
 refine stpT 5 hHeld ?_ (y := fun Wz hWz => by clear hWz; go_simp; (try with_reducible rfl))
 try simp only [Act.put,layT]
 refine wpAnyH_done (by kernel_rfl) ?_ _
 clear hHeld; go_wp2_with fail
 obtain ⟨r0,r1,r2⟩ := Z0y HE.out.1; have hbest : (decide (0 < Z0r y.x.cus.length y.x.sats.length y.p (needI y.x 6) (Z0e y 6) z)) = true → IsBest y.x.cus.length (Z1q y.x y.p y.cs) z := fun h => by
  rw [Z9g]; rcases HWZ.out with h2 | h2
  ·exact h2
  ·have h3 := of_decide_eq_true h
   have h4 := h2.1 z h2.2; omega
 have hnone : (decide (0 < Z0r y.x.cus.length y.x.sats.length y.p (needI y.x 6) (Z0e y 6) z)) = false → Z2e y.x.cus.length (Z1q y.x y.p y.cs) := fun h => by
  rw [Z9g]; rcases HWZ.out with h2 | h2
  ·exact absurd h2.pos (of_decide_eq_false h)
  ·exact h2.1
 exact bodyPost_ret (v := .tuple #[blkC 6 0 (z : Int),.bool (decide (0 < Z0r y.x.cus.length y.x.sats.length y.p (needI y.x 6) (Z0e y 6) z))]) (by simp [results,Tryz.results22,go_sem,r0,r1,r2]) rfl ⟨0,z,_,rfl,fun h => Or.inr (Or.inr (Or.inr (Or.inr (Or.inr ⟨rfl,rfl,hbest h⟩)))),fun h => ⟨by omega,by omega,by omega,by omega,by omega,fun _ => hnone h⟩,HE.out.2⟩
theorem Zk0 (k : Nat) (h1 : 1 ≤ k) (h6 : k ≤ 6) (V : VA) (y : Vw) (w : World) (hi : IsView w.heap.size w V y) (ht : TabD w) (ho : y.Ok) :
  Calls Tryz.prog 22 #[.agg (viewC V y),.int .i64 (k : Int)] w (SeekP y k w) := by
 obtain rfl | rfl | rfl | rfl | rfl | rfl : k = 1 ∨ k = 2 ∨ k = 3 ∨ k = 4 ∨ k = 5 ∨ k = 6 := by omega
 ·exact Zjz V y w hi ht ho
 ·exact Zgu V y w hi ht ho
 ·exact Zbl V y w hi ht ho
 ·exact Zeq V y w hi ht ho
 ·exact Zgv V y w hi ht ho
 ·exact Zer V y w hi ht ho
end Go.Proofs.YtfkommjlmolniaaGreatDoor
end
