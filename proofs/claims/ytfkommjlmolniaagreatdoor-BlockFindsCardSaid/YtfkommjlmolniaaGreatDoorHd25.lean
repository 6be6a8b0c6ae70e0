/- Joined: BlockIs, IOpen. -/
import Derived.Test.YtfkommjlmolniaaGreatDoorHsBSeek
import Derived.Test.YtfkommjlmolniaaGreatDoorHsReachIs
import Derived.Test.YtfkommjlmolniaaGreatDoorHd18
import Derived.ProofKit
import Derived.OpenShut
import Derived.ChangeOld
import Derived.DataReads
import Derived.Deep.Slices
import Derived.Lib.SmallJoins
set_option linter.unusedVariables false
section

namespace Go.Proofs.YtfkommjlmolniaaGreatDoor
set_option maxHeartbeats 16000000
set_option maxRecDepth 100000
open Go.Lib (hid)
open Go.RowKit
variable {w wr w2 : World} {A : InA} {x : Ins} {V : VA} {y : Vw} {B g c s z t n k : Nat} {p q : Nat → Nat → Bool} {l : List Int}
theorem ViewOk.counts {w' : World} (h : ViewOk w w' A x V y) : CountsX x y.cs := by
 obtain ⟨p,h1,h2⟩ := h.mayp; exact ⟨p,h1,h.cnt.congr (fun s c hs hc => (h2 s c hs hc).symm)⟩
theorem ViewOk.found {w' : World} {who : Nat} (h : ViewOk w w' A x V y) (hf : FoundOf x y.p y.cs k who z) : FoundX x k who z := by
 obtain ⟨p,h1,h2⟩ := h.mayp; exact ⟨p,y.cs,h1,h.cnt.congr (fun s c hs hc => (h2 s c hs hc).symm),hf.congr (fun s c hs hc => (h2 s c hs hc).symm)⟩
theorem Zh7 (A : InA) (x : Ins) (w : World) (hi : IsIns w.heap.size w A x) (ht : TabD w) (hm : May x) :
  Calls Tryz.prog 10 #[.agg (insC A x)] w fun e w' => ∃ (l : List Int) (a : Option Addr) (c : Nat),e = .returned (.slice a l.length c) ∧ IsNums w'.heap.size w' a l.length l ∧ CountsX x l ∧ Below w.heap.size w w' := by
 have HX := hid (XBox.make (Below.refl _ w) A x); have HI := hid hi; have HT := hid ht; have HM := hid hm; obtain ⟨c0,c1,c2,c3,c4,c5,c6,c7,c8⟩ := HX.out.cells; clear hi ht hm; unfold insC at *; go_enter Tryz.func10,Tryz.ntmps10
 go_wp2_with (go_at_call 20; refine (Z9o Z3w A x _ (HX.out.pipesHere HI.out) (Z09 HT.out HX.out.below) HM.out).mono ?_; rintro e w1 ⟨V,y,rfl,hv⟩; have HV := hid hv; have hb1 := Z0g w1 (.cells (viewC V y) 65); have HB := hid ((HX.out.below.trans (hv.below.mono HX.out.below.size)).trans (hb1.mono (Nat.le_trans HX.out.below.size hv.below.size))); have HN := hid ((hv.view.cnts.later hb1).mono hb1.size); obtain ⟨d0,d1,d2,d3,d4,d5,d6,d7,d8,d9,d10⟩ := Z0c (heap_alloc_new w1 (.cells (viewC V y) 65)); clear hv hb1 c0 c1 c2 c3 c4 c5 c6 c7 c8)
 go_ret
 exact ⟨y.cs,V.na,V.nc,rfl,HN.out,HV.out.counts,HB.out⟩
theorem Zh8 (A : InA) (x : Ins) (w : World) (hi : IsIns w.heap.size w A x) (hl3 : x.cost.length ≤ 9223372036854775807) (hl4 : x.time.length ≤ 9223372036854775807) (hn : Z0m x ≠ 0) :
  Calls Tryz.prog 10 #[.agg (insC A x)] w fun e w' => ∃ (a : Option Addr) (c : Nat),e = .returned (.slice a 0 c) ∧ Below w.heap.size w w' := by
 have HX := hid (XBox.make (Below.refl _ w) A x); have HI := hid hi; have HL3 := hid hl3; have HL4 := hid hl4; have HN := hid hn; obtain ⟨c0,c1,c2,c3,c4,c5,c6,c7,c8⟩ := HX.out.cells; clear hi hl3 hl4 hn; unfold insC at *; go_enter Tryz.func10,Tryz.ntmps10
 go_wp2_with (go_at_call 20; refine (Z5u A x _ (HX.out.pipesHere HI.out) HL3.out HL4.out HN.out).mono ?_; rintro e w1 ⟨rfl,hb⟩; have hb1 := Z0g w1 (.cells zeroV 65); have HB := hid ((HX.out.below.trans (hb.mono HX.out.below.size)).trans (hb1.mono (Nat.le_trans HX.out.below.size hb.size))); obtain ⟨d0,d1,d2,d3,d4,d5,d6,d7,d8,d9,d10⟩ := Z2m (heap_alloc_new w1 (.cells zeroV 65)); clear hb hb1 c0 c1 c2 c3 c4 c5 c6 c7 c8)
 go_ret
 exact ⟨none,0,rfl,HB.out⟩
theorem Zk9 (A : InA) (x : Ins) (k who z : Int) (w : World) (hi : IsIns w.heap.size w A x) (hl3 : x.cost.length ≤ 9223372036854775807) (hl4 : x.time.length ≤ 9223372036854775807) (hn : Z0m x ≠ 0) :
  Calls Tryz.prog 15 #[.agg (insC A x),blkC k who z] w fun e w' => e = .returned (.bool false) ∧ Below w.heap.size w w' := by
 have HX := hid ((XBox.make (Below.refl _ w) A x).later (Z0g (w.alloc (.cells (insC A x) 34)) (.cells #[.int .i64 k,.int .i64 who,.int .u64 z] 44))); have HI := hid hi; have HL3 := hid hl3; have HL4 := hid hl4; have HN := hid hn; obtain ⟨c0,c1,c2,c3,c4,c5,c6,c7,c8⟩ := HX.out.cells; clear hi hl3 hl4 hn; unfold insC at *; go_enter Tryz.func15,Tryz.ntmps15
 go_wp2_with (go_at_call 20; refine (Z5u A x _ (HX.out.pipesHere HI.out) HL3.out HL4.out HN.out).mono ?_; rintro e w1 ⟨rfl,hb⟩; have hb1 := Z0g w1 (.cells zeroV 65); have HB := hid ((HX.out.below.trans (hb.mono HX.out.below.size)).trans (hb1.mono (Nat.le_trans HX.out.below.size hb.size))); clear hb hb1 c0 c1 c2 c3 c4 c5 c6 c7 c8)
 go_ret
 exact ⟨by simp,HB.out⟩
structure FBx (w wr : World) (gv : Nat) (A : InA) (x : Ins) : Prop where
 below : Below w.heap.size w wr
 res : wr.heap[w.heap.size + 1]? = some (.cells #[.int .i64 0,.int .i64 0,.int .u64 0] 44 (0,0))
 gt : w.heap.size + 1 < gv
theorem FBx.later {gv : Nat} (h : FBx w wr gv A x) (hb : Below wr.heap.size wr w2) : FBx w w2 gv A x := ⟨h.below.trans (hb.mono h.below.size),(hb.block _ (Array.getElem?_eq_some_iff.1 h.res).1).trans h.res,h.gt⟩
theorem FBx.done {gv : Nat} (h : FBx w wr gv A x) (a b d : Int) :
  (((wr.setCell ⟨w.heap.size + 1,0,none⟩ (.int .i64 a)).setCell ⟨w.heap.size + 1,1,none⟩ (.int .i64 b)).setCell ⟨w.heap.size + 1,2,none⟩ (.int .u64 d)).heap[w.heap.size + 1]? = some (.cells #[.int .i64 a,.int .i64 b,.int .u64 d] 44 (0,0)) ∧
  Below w.heap.size w (((wr.setCell ⟨w.heap.size + 1,0,none⟩ (.int .i64 a)).setCell ⟨w.heap.size + 1,1,none⟩ (.int .i64 b)).setCell ⟨w.heap.size + 1,2,none⟩ (.int .u64 d)) :=
 ⟨heap_setCell_same _ _ 2 _ _ _ (heap_setCell_same _ _ 1 _ _ _ (heap_setCell_same _ _ 0 _ _ _ h.res)),((h.below.setCell (p := ⟨w.heap.size + 1,0,none⟩) (show w.heap.size ≤ w.heap.size + 1 by omega) _).setCell (p := ⟨w.heap.size + 1,1,none⟩) (show w.heap.size ≤ w.heap.size + 1 by omega) _).setCell (p := ⟨w.heap.size + 1,2,none⟩) (show w.heap.size ≤ w.heap.size + 1 by omega) _⟩
theorem Z9v (w : World) (A : InA) (x : Ins) : XBox w ((w.alloc (.cells (insC A x) 34)).alloc (.cells #[.int .i64 0,.int .i64 0,.int .u64 0] 44)) w.heap.size A x ∧
  ((w.alloc (.cells (insC A x) 34)).alloc (.cells #[.int .i64 0,.int .i64 0,.int .u64 0] 44)).heap[w.heap.size + 1]? = some (.cells #[.int .i64 0,.int .i64 0,.int .u64 0] 44 (0,0)) := by
 have hz1 : (w.alloc (.cells (insC A x) 34)).heap.size = w.heap.size + 1 := by simp
 have hR := heap_alloc_new (w.alloc (.cells (insC A x) 34)) (.cells #[.int .i64 0,.int .i64 0,.int .u64 0] 44); rw [hz1] at hR; exact ⟨(XBox.make (Below.refl _ w) A x).later (Z0g _ _),hR⟩
theorem Zmu (A : InA) (x : Ins) (w : World) (hi : IsIns w.heap.size w A x) (hl3 : x.cost.length ≤ 9223372036854775807) (hl4 : x.time.length ≤ 9223372036854775807) (hn : Z0m x ≠ 0) :
  Calls Tryz.prog 12 #[.agg (insC A x)] w fun e w' => e = .returned (.tuple #[blkC 0 0 0,.bool false]) ∧ Below w.heap.size w w' := by
 have hst := Z9v w A x; obtain ⟨W0,hW0⟩ : ∃ W9,(w.alloc (.cells (insC A x) 34)).alloc (.cells #[.int .i64 0,.int .i64 0,.int .u64 0] 44) = W9 := ⟨_,rfl⟩; rw [hW0] at hst; have HW0 := hid hW0; have HX := hid hst.1; have HR := hid hst.2; have HI := hid hi; have HL3 := hid hl3; have HL4 := hid hl4; have HN := hid hn; obtain ⟨c0,c1,c2,c3,c4,c5,c6,c7,c8⟩ := HX.out.cells; clear hi hl3 hl4 hn hst hW0; unfold insC at HW0; unfold insC; go_enter Tryz.func12,Tryz.ntmps12
 go_upto_region 1 with fail
 rw [HW0.out]; clear HW0; go_wp2_with (go_at_call 20; refine (Z5u A x _ (HX.out.pipesHere HI.out) HL3.out HL4.out HN.out).mono ?_; rintro e w1 ⟨rfl,hb⟩; have hb1 := Z0g w1 (.cells zeroV 65); have hlt := (Array.getElem?_eq_some_iff.1 HR.out).1; have HB := hid (FBx.mk (A := A) (x := x) (w := w) (gv := w1.heap.size) ((HX.out.below.trans (hb.mono HX.out.below.size)).trans (hb1.mono (Nat.le_trans HX.out.below.size hb.size))) ((hb1.block _ (Nat.lt_of_lt_of_le hlt hb.size)).trans ((hb.block _ hlt).trans HR.out)) (Nat.lt_of_lt_of_le hlt hb.size)); clear hb hb1 hlt c0 c1 c2 c3 c4 c5 c6 c7 c8; obtain ⟨d0,d1,d2⟩ := Z0y HB.out.res; have f0 := Z0l HB.out.res 0; have f1 := Z0l HB.out.res 1; have f2 := Z0l HB.out.res 2)
 obtain ⟨h1,h2⟩ := HB.out.done 0 0 0; obtain ⟨r0,r1,r2⟩ := Z0y h1; exact bodyPost_ret (v := .tuple #[blkC 0 0 0,.bool false]) (by simp [results,Tryz.results12,go_sem,r0,r1,r2]) rfl ⟨rfl,h2⟩
theorem Zmv (A : InA) (x : Ins) (w : World) (hi : IsIns w.heap.size w A x) (ht : TabD w) (hm : May x) :
  Calls Tryz.prog 12 #[.agg (insC A x)] w fun e w' => ∃ k who z : Nat,e = .returned (.tuple #[blkC (k : Int) (who : Int) (z : Int),.bool (decide (k ≠ 0))]) ∧ FoundX x k who z ∧ Below w.heap.size w w' := by
 have hst := Z9v w A x; obtain ⟨W0,hW0⟩ : ∃ W9,(w.alloc (.cells (insC A x) 34)).alloc (.cells #[.int .i64 0,.int .i64 0,.int .u64 0] 44) = W9 := ⟨_,rfl⟩; rw [hW0] at hst; have HW0 := hid hW0; have HX := hid hst.1; have HR := hid hst.2; have HI := hid hi; have HT := hid ht; have HM := hid hm; obtain ⟨c0,c1,c2,c3,c4,c5,c6,c7,c8⟩ := HX.out.cells; clear hi ht hm hst hW0; unfold insC at HW0; unfold insC; go_enter Tryz.func12,Tryz.ntmps12
 go_upto_region 1 with fail
 rw [HW0.out]; clear HW0; go_wp2_with (go_at_call 20; refine (Z9o Z3w A x _ (HX.out.pipesHere HI.out) (Z09 HT.out HX.out.below) HM.out).mono ?_; rintro e w1 ⟨V,y,rfl,hv⟩; have hb := hv.below; have hb1 := Z0g w1 (.cells (viewC V y) 65); have hlt := (Array.getElem?_eq_some_iff.1 HR.out).1; have HB := hid (FBx.mk (A := A) (x := x) (w := w) (gv := w1.heap.size) ((HX.out.below.trans (hb.mono HX.out.below.size)).trans (hb1.mono (Nat.le_trans HX.out.below.size hb.size))) ((hb1.block _ (Nat.lt_of_lt_of_le hlt hb.size)).trans ((hb.block _ hlt).trans HR.out)) (Nat.lt_of_lt_of_le hlt hb.size)); have HVB := hid (heap_alloc_new w1 (.cells (viewC V y) 65)); have HVI := hid ((hv.view.later hb1).mono hb1.size); have HV := hid hv; clear hb hb1 hlt hv c0 c1 c2 c3 c4 c5 c6 c7 c8)
 obtain ⟨W1,hW1⟩ : ∃ W9,w1.alloc (.cells (viewC V y) 65) = W9 := ⟨_,rfl⟩; obtain ⟨gv,hgv⟩ : ∃ g9,w1.heap.size = g9 := ⟨_,rfl⟩; rw [hW1,hgv] at HB HVB; rw [hW1] at HVI; unfold viewC at hW1; rw [hW1,hgv]; clear hW1 hgv; have hN0 : NoB x y.p y.cs 0 := ⟨by omega,by omega,by omega,by omega,by omega,by omega⟩
 have HN0 := hid hN0; clear hN0; go_loopw [6] (fun kv wr => ∃ i : Nat,kv = .int .i64 ((i : Int) + 1) ∧ i ≤ 6 ∧ Hid (NoB x y.p y.cs i) ∧ Hid (FBx w wr gv A x) ∧ Hid (wr.heap[gv]? = some (.cells (viewC V y) 65 (0,0))) ∧ Hid (IsView wr.heap.size wr V y)) (fun kv _ => 7 - (intOf kv).toNat)
 case atStart => exact ⟨0,rfl,by omega,HN0,HB,HVB,HVI⟩
 case round =>
  obtain ⟨i,rfl,hi,HN,HBR,HVR,HIR⟩ := hrel; clear HN0 HB HVB HVI; obtain ⟨d0,d1,d2⟩ := Z0y HBR.out.res; have f0 := Z0l HBR.out.res 0; have f1 := Z0l HBR.out.res 1; have f2 := Z0l HBR.out.res 2; by_cases h6 : i < 6
  ·have hl : (i : Int) + 1 < 7 := by omega
   have HTR := hid (Z09 HT.out HBR.out.below); have HSK := hid (Zk0 (i + 1) (by omega) (by omega) V y wr HIR.out HTR.out HV.out.ok)
   rw [show (((i + 1 : Nat)) : Int) = (i : Int) + 1 by omega] at HSK
   obtain ⟨c0,c1,c2,c3,c4,c5,c6,c7,c8,c9,c10⟩ := Z0c HVR.out; clear d0 d1 d2 f0 f1 f2; go_wp2_with fail
   clear c0 c1 c2 c3 c4 c5 c6 c7 c8 c9 c10; refine HSK.out.mono ?_; rintro e w5 ⟨who,z,b,rfl,hyes,hno,hb5⟩; have hy := HV.out.ex; rw [hy] at hyes hno; rw [show (((i + 1 : Nat)) : Int) = (i : Int) + 1 by omega]
   have hb6 := Z0g w5 (.cells #[.int .i64 ((i : Int) + 1),.int .i64 (who : Int),.int .u64 (z : Int)] 44); have hb56 := hb5.trans (hb6.mono hb5.size); have HB6 := hid (HBR.out.later hb56); have HV6 : Hid ((w5.alloc (.cells #[.int .i64 ((i : Int) + 1),.int .i64 (who : Int),.int .u64 (z : Int)] 44)).heap[gv]? = some (.cells (viewC V y) 65 (0,0))) := hid ((hb56.block _ (Array.getElem?_eq_some_iff.1 HVR.out).1).trans HVR.out); have HI6 := hid ((HIR.out.later hb56).mono hb56.size); have HK6 := hid (heap_alloc_new w5 (.cells #[.int .i64 ((i : Int) + 1),.int .i64 (who : Int),.int .u64 (z : Int)] 44)); obtain ⟨d0,d1,d2⟩ := Z0y HB6.out.res; have f0 := Z0l HB6.out.res 0; have f1 := Z0l HB6.out.res 1; have f2 := Z0l HB6.out.res 2; obtain ⟨e0,e1,e2⟩ := Z0y HK6.out; have HYES := hid hyes; have HNO := hid hno; clear hb5 hb6 hb56 hyes hno; cases b with
   | true =>
    have HFD := hid (HV.out.found (.inr ⟨HYES.out rfl,by rw [Nat.add_sub_cancel]; exact HN.out⟩ : FoundOf x y.p y.cs (i + 1) who z))
    have HE := hid (HB6.out.done ((i : Int) + 1) (who : Int) (z : Int)); go_wp2_with fail
    obtain ⟨h1,h2⟩ := HE.out; obtain ⟨r0,r1,r2⟩ := Z0y h1; exact bodyPost_ret (v := .tuple #[blkC ((i : Int) + 1) (who : Int) (z : Int),.bool true]) (by simp [results,Tryz.results12,go_sem,r0,r1,r2]) rfl ⟨i + 1,who,z,by rw [show (((i + 1 : Nat)) : Int) = (i : Int) + 1 by omega]; simp,HFD.out,h2⟩
   | false =>
    have HNN := hid (HN.out.more (HNO.out rfl)); clear d0 d1 d2 f0 f1 f2 e0 e1 e2; go_wp2_with fail
    go_roundw
    case rel => exact ⟨i + 1,by go_num,by omega,HNN,HB6,HV6,HI6⟩
    case measure => simp [intOf]; omega
  ·have hl : ¬ (i : Int) + 1 < 7 := by omega
   have HFD := hid (HV.out.found (.inl ⟨rfl,rfl,rfl,by have h := HN.out; rw [show i = 6 by omega] at h; exact h⟩ : FoundOf x y.p y.cs 0 0 0))
   have HE := hid (HBR.out.done 0 0 0); go_wp2_with fail
   obtain ⟨h1,h2⟩ := HE.out; obtain ⟨r0,r1,r2⟩ := Z0y h1; exact bodyPost_ret (v := .tuple #[blkC 0 0 0,.bool false]) (by simp [results,Tryz.results12,go_sem,r0,r1,r2]) rfl ⟨0,0,0,by simp,HFD.out,h2⟩
theorem Z76 : BlockSpec where
 counts := Zh7
 find := Zmv
 countsNo := Zh8
 findNo := Zmu
 rightNo := fun A x k who z w hi h3 h4 _ _ _ hn => Zk9 A x k who z w hi h3 h4 hn
end Go.Proofs.YtfkommjlmolniaaGreatDoor
end
section

namespace Go.Proofs.YtfkommjlmolniaaGreatDoor
set_option maxHeartbeats 16000000
set_option maxRecDepth 100000
open Go.ChangeShapes Go.WideShapes Go.ChangeAt Go.RowKit
theorem Zfg : Tryz.prog.cellsOf 26 = 11 := by kernel_rfl
theorem Zag : Tryz.prog.cellsOf 58 = 2 := by kernel_rfl
theorem Zah : Tryz.prog.cellsOf 60 = 4 := by kernel_rfl
theorem Z26 : Tryz.prog.cellsOf 5 = 1 := by kernel_rfl
theorem Zai : Tryz.prog.cellsOf 4 = 1 := by kernel_rfl
theorem Zi2 : Tryz.prog.cellsOf 24 = 1 := by kernel_rfl
theorem Zn8 : Tryz.prog.cellsOf 22 = 1 := by kernel_rfl
theorem Zn9 : Tryz.prog.cellsOf 23 = 1 := by kernel_rfl
section
variable {H : Type} {enc : TypeId × Value → H} {w : World} {base : Nat} {spare : Nat → Bool} {held : Bool}
theorem Zna {fuel : Nat} {cs : List Value} {x : DataW H × List MemPlace} (h : DataW.trod enc Tryz.prog w base spare held fuel 58 cs = some x) :
  ∃ c : Int × Int,cs = [.int .u8 c.1,.int .u8 c.2] ∧ (sm8 c.1 ∧ sm8 c.2) := by
 obtain ⟨xs,n,_,_,hlen,hxl,hf⟩ := DataW.trod_struct Tryz.underlying58 h; rw [Zag] at hlen; match cs,hlen with
 | [v0,v1],_ =>
  match xs,hxl with
  | [y0,y1],_ =>
   have g0 := hf 0 _ rfl; simp [Z26] at g0
   have g1 := hf 1 _ rfl; simp [Z26] at g1
   obtain ⟨t0,ht0,_,wt0⟩ := DataW.trod_int Tryz.underlying5 g0; obtain ⟨t1,ht1,_,wt1⟩ := DataW.trod_int Tryz.underlying5 g1; simp only [List.cons.injEq,and_true] at ht0 ht1
   subst ht0 ht1; simp [Lit.wf,IntKind.min,IntKind.max,IntKind.signed,IntKind.bits] at wt0 wt1
   exact ⟨(t0,t1),rfl,by unfold sm8; simp only; omega⟩
theorem Znb {fuel : Nat} {cs : List Value} {x : DataW H × List MemPlace} (h : DataW.trod enc Tryz.prog w base spare held fuel 60 cs = some x) :
  ∃ c : Pi,cs = [.int .u8 c.1,.int .u8 c.2.1,.int .u8 c.2.2.1,.int .u8 c.2.2.2] ∧ (sm8 c.1 ∧ sm8 c.2.1 ∧ sm8 c.2.2.1 ∧ sm8 c.2.2.2) := by
 obtain ⟨xs,n,_,_,hlen,hxl,hf⟩ := DataW.trod_struct Tryz.underlying60 h; rw [Zah] at hlen; match cs,hlen with
 | [v0,v1,v2,v3],_ =>
  match xs,hxl with
  | [y0,y1,y2,y3],_ =>
   have g0 := hf 0 _ rfl; simp [Z26] at g0
   have g1 := hf 1 _ rfl; simp [Z26] at g1
   have g2 := hf 2 _ rfl; simp [Z26] at g2
   have g3 := hf 3 _ rfl; simp [Z26] at g3
   obtain ⟨t0,ht0,_,wt0⟩ := DataW.trod_int Tryz.underlying5 g0; obtain ⟨t1,ht1,_,wt1⟩ := DataW.trod_int Tryz.underlying5 g1; obtain ⟨t2,ht2,_,wt2⟩ := DataW.trod_int Tryz.underlying5 g2; obtain ⟨t3,ht3,_,wt3⟩ := DataW.trod_int Tryz.underlying5 g3; simp only [List.cons.injEq,and_true] at ht0 ht1 ht2 ht3
   subst ht0 ht1 ht2 ht3; simp [Lit.wf,IntKind.min,IntKind.max,IntKind.signed,IntKind.bits] at wt0 wt1 wt2 wt3
   exact ⟨(t0,t1,t2,t3),rfl,by unfold sm8; simp only; omega⟩
theorem Zkx {fuel : Nat} {a : Option Addr} {len cap : Nat} {x : DataW H × List MemPlace} (h : DataW.trod enc Tryz.prog w base spare held fuel 22 [.slice a len cap] = some x) :
  len ≤ maxLen ∧ ∃ l,IsSatU w.heap.size w a len l := by
 rcases Go.Deep.open_slice Tryz.underlying22 h with ⟨hcs,_⟩ | ⟨p,len',cap',m,n,D,Pl,hcs,_,hl,hm,hmm,_,hi⟩
 ·simp only [List.cons.injEq,Value.slice.injEq,and_true] at hcs
  obtain ⟨rfl,rfl,rfl⟩ := hcs; exact ⟨by unfold maxLen; omega,[],rfl,fun x hx => (by simp at hx),.inl rfl⟩
 ·simp only [List.cons.injEq,Value.slice.injEq,and_true] at hcs
  obtain ⟨rfl,rfl,rfl⟩ := hcs; refine ⟨by omega,?_⟩
  have hlm : len ≤ m := by rw [hmm]; split <;> omega
  have each : ∀ i,i < len → ∃ c : Int × Int,(w.cell? (p.add (i * 2)) = some (.int .u8 c.1) ∧ w.cell? (p.add (i * 2 + 1)) = some (.int .u8 c.2)) ∧ (sm8 c.1 ∧ sm8 c.2) := fun i hil => by
   obtain ⟨cs',h1,h2⟩ := hi i (by omega)
   obtain ⟨c,rfl,hb⟩ := Zna h2; rw [Zag] at h1; obtain ⟨_,_,hat⟩ := World.cells?_some h1; have a0 := hat 0 (by omega)
   have a1 := hat 1 (by omega)
   rw [Go.Deep.add_add] at a0 a1; exact ⟨c,⟨by simpa using a0,by simpa using a1⟩,hb⟩
  obtain ⟨f,hf⟩ := Go.Deep.choose_lt each; refine ⟨(List.range len).map f,by simp,fun x hx => (by simp only [List.mem_map,List.mem_range] at hx; obtain ⟨i,hi2,rfl⟩ := hx; exact (hf i hi2).2),?_⟩
  by_cases h0 : len = 0
  ·exact .inl h0
  ·obtain ⟨b,off,spot⟩ := p
   have hspot : spot = none := by simpa [Addr.add] using World.cell?_spot (hf 0 (by omega)).1.1
   subst hspot; have hrow : PairU w b off ((List.range len).map f) := fun i c hc => by
    have hil : i < len := by have := (List.getElem?_eq_some_iff.1 hc).1; simpa using this
    simp only [List.getElem?_map,List.getElem?_range hil,Option.map_some,Option.some.injEq] at hc
    subst hc; have := (hf i hil).1; simp only [Addr.add_lit] at this
    exact this
   exact .inr ⟨b,off,rfl,World.block_lt_of_cell? w _ (hf 0 (by omega)).1.1,hrow⟩
theorem Zky {fuel : Nat} {a : Option Addr} {len cap : Nat} {x : DataW H × List MemPlace} (h : DataW.trod enc Tryz.prog w base spare held fuel 23 [.slice a len cap] = some x) :
  len ≤ maxLen ∧ ∃ l,IsWhoU w.heap.size w a len l := by
 rcases Go.Deep.open_slice Tryz.underlying23 h with ⟨hcs,_⟩ | ⟨p,len',cap',m,n,D,Pl,hcs,_,hl,hm,hmm,_,hi⟩
 ·simp only [List.cons.injEq,Value.slice.injEq,and_true] at hcs
  obtain ⟨rfl,rfl,rfl⟩ := hcs; exact ⟨by unfold maxLen; omega,[],rfl,fun x hx => (by simp at hx),.inl rfl⟩
 ·simp only [List.cons.injEq,Value.slice.injEq,and_true] at hcs
  obtain ⟨rfl,rfl,rfl⟩ := hcs; refine ⟨by omega,?_⟩
  have hlm : len ≤ m := by rw [hmm]; split <;> omega
  have each : ∀ i,i < len → ∃ c : Pi,(w.cell? (p.add (i * 4)) = some (.int .u8 c.1) ∧ w.cell? (p.add (i * 4 + 1)) = some (.int .u8 c.2.1) ∧ w.cell? (p.add (i * 4 + 2)) = some (.int .u8 c.2.2.1) ∧ w.cell? (p.add (i * 4 + 3)) = some (.int .u8 c.2.2.2)) ∧ (sm8 c.1 ∧ sm8 c.2.1 ∧ sm8 c.2.2.1 ∧ sm8 c.2.2.2) := fun i hil => by
   obtain ⟨cs',h1,h2⟩ := hi i (by omega)
   obtain ⟨c,rfl,hb⟩ := Znb h2; rw [Zah] at h1; obtain ⟨_,_,hat⟩ := World.cells?_some h1; have a0 := hat 0 (by omega)
   have a1 := hat 1 (by omega)
   have a2 := hat 2 (by omega)
   have a3 := hat 3 (by omega)
   rw [Go.Deep.add_add] at a0 a1 a2 a3; exact ⟨c,⟨by simpa using a0,by simpa using a1,by simpa using a2,by simpa using a3⟩,hb⟩
  obtain ⟨f,hf⟩ := Go.Deep.choose_lt each; refine ⟨(List.range len).map f,by simp,fun x hx => (by simp only [List.mem_map,List.mem_range] at hx; obtain ⟨i,hi2,rfl⟩ := hx; exact (hf i hi2).2),?_⟩
  by_cases h0 : len = 0
  ·exact .inl h0
  ·obtain ⟨b,off,spot⟩ := p
   have hspot : spot = none := by simpa [Addr.add] using World.cell?_spot (hf 0 (by omega)).1.1
   subst hspot; have hrow : QuadU w b off ((List.range len).map f) := fun i c hc => by
    have hil : i < len := by have := (List.getElem?_eq_some_iff.1 hc).1; simpa using this
    simp only [List.getElem?_map,List.getElem?_range hil,Option.map_some,Option.some.injEq] at hc
    subst hc; have := (hf i hil).1; simp only [Addr.add_lit] at this
    exact this
   exact .inr ⟨b,off,rfl,World.block_lt_of_cell? w _ (hf 0 (by omega)).1.1,hrow⟩
theorem Zma {fuel : Nat} {a : Option Addr} {len cap : Nat} {x : DataW H × List MemPlace} (h : DataW.trod enc Tryz.prog w base spare held fuel 24 [.slice a len cap] = some x) :
  len ≤ maxLen ∧ ∃ xs,IsU8 w.heap.size w a len xs := by
 rcases Go.Deep.open_slice Tryz.underlying24 h with ⟨hcs,_⟩ | ⟨p,len',cap',m,n,D,Pl,hcs,_,hl,hm,hmm,_,hi⟩
 ·simp only [List.cons.injEq,Value.slice.injEq,and_true] at hcs
  obtain ⟨rfl,rfl,rfl⟩ := hcs; exact ⟨by unfold maxLen; omega,[],rfl,fun x hx => (by simp at hx),.inl rfl⟩
 ·simp only [List.cons.injEq,Value.slice.injEq,and_true] at hcs
  obtain ⟨rfl,rfl,rfl⟩ := hcs; refine ⟨by omega,?_⟩
  have hlm : len ≤ m := by rw [hmm]; split <;> omega
  have each : ∀ i,i < len → ∃ c : Int,w.cell? (p.add i) = some (.int .u8 c) ∧ (0 ≤ c ∧ c ≤ 255) := fun i hil => by
   obtain ⟨cs',h1,h2⟩ := hi i (by omega)
   obtain ⟨c,rfl,_,wc⟩ := DataW.trod_int Tryz.underlying5 h2; rw [Z26] at h1; obtain ⟨_,_,hat⟩ := World.cells?_some h1; have a0 := hat 0 (by omega)
   rw [Go.Deep.add_add] at a0; simp [Lit.wf,IntKind.min,IntKind.max,IntKind.signed,IntKind.bits] at wc
   exact ⟨c,by simpa using a0,wc⟩
  obtain ⟨f,hf⟩ := Go.Deep.choose_lt each; refine ⟨(List.range len).map f,by simp,fun x hx => (by simp only [List.mem_map,List.mem_range] at hx; obtain ⟨i,hi2,rfl⟩ := hx; exact (hf i hi2).2),?_⟩
  by_cases h0 : len = 0
  ·exact .inl h0
  ·obtain ⟨b,off,spot⟩ := p
   have hspot : spot = none := by simpa [Addr.add] using World.cell?_spot (hf 0 (by omega)).1
   subst hspot; refine .inr ⟨b,off,rfl,World.block_lt_of_cell? w _ (hf 0 (by omega)).1,fun i c hc => ?_⟩
   have hil : i < len := by have := (List.getElem?_eq_some_iff.1 hc).1; simpa using this
   simp only [List.getElem?_map,List.getElem?_range hil,Option.map_some,Option.some.injEq] at hc
   subst hc; have := (hf i hil).1; simp only [Addr.add_lit] at this
   exact this
theorem Zdg {r : Reach} {b0 : Nat} {v : Value} {d : DataW H} {p : List MemPlace} (hv : Value.okWide Tryz.prog w r b0 26 v) (h : DataW.Trod enc Tryz.prog w base spare held 26 v d p) :
  ∃ (A : SmA) (s : Sm),v = .agg (smC A s) ∧ IsSm w.heap.size w A s := by
 obtain ⟨cs,rfl,hsz⟩ := okWide_struct Tryz.underlying26 hv; obtain ⟨fuel,hf0⟩ := h; obtain ⟨xs,n,_,_,hlen,hxl,hf⟩ := DataW.trod_struct Tryz.underlying26 hf0; obtain ⟨l⟩ := cs; have hll : l.length = 11 := by simpa [Zfg] using hsz
 match l,hll with
 | [v0,v1,v2,v3,v4,v5,v6,v7,v8,v9,v10],_ =>
  match xs,hxl with
  | [y0,y1,y2,y3,y4,y5,y6,y7,y8,y9,y10],_ =>
   have g0 := hf 0 _ rfl; simp [Z26,Value.cells] at g0
   have g1 := hf 1 _ rfl; simp [Z26,Value.cells] at g1
   have g2 := hf 2 _ rfl; simp [Z26,Value.cells] at g2
   have g3 := hf 3 _ rfl; simp [Z26,Value.cells] at g3
   have g4 := hf 4 _ rfl; simp [Z26,Value.cells] at g4
   have g5 := hf 5 _ rfl; simp [Zn8,Value.cells] at g5
   have g6 := hf 6 _ rfl; simp [Zn9,Value.cells] at g6
   have g7 := hf 7 _ rfl; simp [Zi2,Value.cells] at g7
   have g8 := hf 8 _ rfl; simp [Zi2,Value.cells] at g8
   have g9 := hf 9 _ rfl; simp [Zai,Value.cells] at g9
   have g10 := hf 10 _ rfl; simp [Zai,Value.cells] at g10
   obtain ⟨t0,e0,_,wt0⟩ := DataW.trod_int Tryz.underlying5 g0; obtain ⟨t1,e1,_,wt1⟩ := DataW.trod_int Tryz.underlying5 g1; obtain ⟨t2,e2,_,wt2⟩ := DataW.trod_int Tryz.underlying5 g2; obtain ⟨t3,e3,_,wt3⟩ := DataW.trod_int Tryz.underlying5 g3; obtain ⟨t4,e4,_,wt4⟩ := DataW.trod_int Tryz.underlying5 g4; obtain ⟨a5,l5,c5,e5⟩ := Joins.slice_form Tryz.underlying22 g5; obtain ⟨a6,l6,c6,e6⟩ := Joins.slice_form Tryz.underlying23 g6; obtain ⟨a7,l7,c7,e7⟩ := Joins.slice_form Tryz.underlying24 g7; obtain ⟨a8,l8,c8,e8⟩ := Joins.slice_form Tryz.underlying24 g8; obtain ⟨q9,e9,_⟩ := DataW.trod_bool Tryz.underlying4 g9; obtain ⟨q10,e10,_⟩ := DataW.trod_bool Tryz.underlying4 g10; simp only [List.cons.injEq,and_true] at e0 e1 e2 e3 e4 e5 e6 e7 e8 e9 e10
   subst e0 e1 e2 e3 e4 e5 e6 e7 e8 e9 e10; obtain ⟨m5,s,h5⟩ := Zkx g5; obtain ⟨m6,c,h6⟩ := Zky g6; obtain ⟨m7,K,h7⟩ := Zma g7; obtain ⟨m8,T,h8⟩ := Zma g8; have l5' := h5.1; have l6' := h6.1; subst l5' l6'; unfold maxLen at m5 m6; simp [Lit.wf,IntKind.min,IntKind.max,IntKind.signed,IntKind.bits] at wt0 wt1 wt2 wt3 wt4
   exact ⟨⟨a5,c5,a6,c6,a7,l7,c7,a8,l8,c8⟩,⟨t0,t1,t2,t3,t4,s,c,K,T,q9,q10⟩,rfl,⟨h5,h6,h7,h8,⟨wt0,wt1,wt2,wt3,wt4⟩,by simpa using m5,by simpa using m6⟩⟩
end
end Go.Proofs.YtfkommjlmolniaaGreatDoor
end
