/- Joined: BlockNone, BOpen. -/
import Derived.Test.YtfkommjlmolniaaGreatDoorBAwake
import Derived.Test.YtfkommjlmolniaaGreatDoorGr16
import Derived.Test.YtfkommjlmolniaaGreatDoorGr25
import Derived.Test.YtfkommjlmolniaaGreatDoorGr3
import Derived.Lib.SmallJoins
set_option linter.unusedVariables false
section

namespace Go.Proofs.YtfkommjlmolniaaGreatDoor
set_option maxHeartbeats 16000000
set_option maxRecDepth 100000
open Go.Lib (hid)
open Go.RowKit
theorem blkLater {wr w2 : World} {g : Nat} {o : Obj} (h : wr.heap[g]? = some o) (hb : Below wr.heap.size wr w2) : w2.heap[g]? = some o := (hb.block g (Array.getElem?_eq_some_iff.1 h).1).trans h
theorem blkCells {wr : World} {g : Nat} {a b c : Value} {T : TypeId} (h : wr.heap[g]? = some (.cells #[a,b,c] T (0,0))) : wr.cell? ⟨g,0,none⟩ = some a ∧ wr.cell? ⟨g,1,none⟩ = some b ∧ wr.cell? ⟨g,2,none⟩ = some c := by
 simp [World.cell?,h]
theorem blockNone_walk (H : BlockSpec) (R : ReachSpec) (A : InA) (x : Ins) (k who z : Int) (w : World) (ht : TabD w) (hi : IsIns w.heap.size w A x) (hl : x.Len) (hk : Fits k) (hw : Fits who) (hz : 0 ≤ z ∧ z < 18446744073709551616) :
  Calls Tryz.prog 5 #[.agg (insC A x),blkC k who z] w fun e w' => e = .returned (.bool true) ∧ Below w.heap.size w w' := by
 have HTB := hid ht; have HH := hid H; have HRS := hid R; have HIX := hid hi; have HXL := hid hl; have HKF := hid hk; have HWF := hid hw; have HZF := hid hz; have hz1 : (w.alloc (.cells (insC A x) 34)).heap.size = w.heap.size + 1 := by simp
 have hb0 := below1 (w.alloc (.cells (insC A x) 34)) (.cells #[.int .i64 k,.int .i64 who,.int .u64 z] 44); have HX0 := hid ((XBox.make (Below.refl _ w) A x).later hb0); have HK0 : Hid (((w.alloc (.cells (insC A x) 34)).alloc (.cells #[.int .i64 k,.int .i64 who,.int .u64 z] 44)).heap[w.heap.size + 1]? = some (.cells #[.int .i64 k,.int .i64 who,.int .u64 z] 44 (0,0))) := hid (by
  have h := heap_alloc_new (w.alloc (.cells (insC A x) 34)) (.cells #[.int .i64 k,.int .i64 who,.int .u64 z] 44); rw [hz1] at h; exact h)
 obtain ⟨W0,hW0⟩ : ∃ W9,(w.alloc (.cells (insC A x) 34)).alloc (.cells #[.int .i64 k,.int .i64 who,.int .u64 z] 44) = W9 := ⟨_,rfl⟩; rw [hW0] at HX0 HK0; have HW0 := hid hW0; clear ht H R hi hl hk hw hz hz1 hb0 hW0; unfold insC at *; go_enter Tryz.func5,Tryz.ntmps5
 go_wp2_with fail
 rw [HW0.out]; clear HW0; refine (block_awake HH.out HRS.out _ (tabD_below HTB.out HX0.out.below)).mono ?_; rintro e w1 ⟨rfl,hb1⟩; have HX1 := hid (HX0.out.later hb1); have HK1 := hid (blkLater HK0.out hb1); obtain ⟨k0,k1,k2,k3,k4,k5,k6,k7,k8⟩ := HX1.out.cells; clear hb1 HX0 HK0; by_cases h60 : 60 < x.cus.length
 ·go_wp2_with fail
  go_ret
  exact ⟨rfl,HX1.out.below⟩
 ·obtain ⟨er,her⟩ : ∃ er,instErr x = er := ⟨_,rfl⟩
  by_cases h0 : er = 0
  ·subst h0
   go_wp2_with (go_at_call 14; refine (check_wide A x _ (HX1.out.pipesHere HIX.out) HXL.out.cost HXL.out.time).mono ?_; rw [her]; rintro e w7 ⟨rfl,hb7⟩; have HX7 := hid (HX1.out.later hb7); clear hb7)
   go_ret
   exact ⟨rfl,HX7.out.below⟩
  ·have HER : Hid (instErr x ≠ 0) := hid (by rw [her]; exact h0)
   have hz0 : (er == 0) = false := by simpa using h0
   have hdd : (decide (60 < (x.cus.length : Int)) || er == 0) = false := by rw [hz0,Bool.or_false]; exact decide_eq_false (by omega)
   go_wp2_with (go_at_call 14; refine (check_wide A x _ (HX1.out.pipesHere HIX.out) HXL.out.cost HXL.out.time).mono ?_; rw [her]; rintro e w7 ⟨rfl,hb7⟩; have HX7 := hid (HX1.out.later hb7); have HK7 := hid (blkLater HK1.out hb7); clear hb7 k0 k1 k2 k3 k4 k5 k6 k7 k8; obtain ⟨k0,k1,k2,k3,k4,k5,k6,k7,k8⟩ := HX7.out.cells)
   clear her k0 k1 k2 k3 k4 k5 k6 k7 k8; refine (HH.out.findNo A x _ (HX7.out.pipesHere HIX.out) HXL.out.cost HXL.out.time HER.out).mono ?_; rintro e w8 ⟨rfl,hb8⟩; have hb9 := below1 w8 (.cells #[.int .i64 0,.int .i64 0,.int .u64 0] 44); have HX9 := hid ((HX7.out.later hb8).later hb9); have HK9 := hid (blkLater (blkLater HK7.out hb8) hb9); have HC9 := hid (heap_alloc_new w8 (.cells #[.int .i64 0,.int .i64 0,.int .u64 0] 44)); obtain ⟨k0,k1,k2,k3,k4,k5,k6,k7,k8⟩ := HX9.out.cells; obtain ⟨d0,d1,d2⟩ := blkCells HK9.out; clear hb8 hb9 HX7 HK7; go_wp2_with fail
   obtain ⟨w9,hw9⟩ : ∃ W9,w8.alloc (.cells #[.int .i64 0,.int .i64 0,.int .u64 0] 44) = W9 := ⟨_,rfl⟩; obtain ⟨gb,hgb⟩ : ∃ b,w8.heap.size = b := ⟨_,rfl⟩; rw [hw9] at HX9 HC9 ⊢; rw [hgb] at HC9 ⊢; clear hw9 hgb k0 k1 k2 k3 k4 k5 k6 k7 k8 d0 d1 d2 HK9; refine (HH.out.rightNo A x k who z _ (HX9.out.pipesHere HIX.out) HXL.out.cost HXL.out.time HKF.out HWF.out HZF.out HER.out).mono ?_; rintro e w10 ⟨rfl,hb10⟩; have HX10 := hid (HX9.out.later hb10); have HC10 := hid (blkLater HC9.out hb10); obtain ⟨k0,k1,k2,k3,k4,k5,k6,k7,k8⟩ := HX10.out.cells; obtain ⟨d0,d1,d2⟩ := blkCells HC10.out; clear hb10 HX9 HC9; go_wp2_with fail
   clear k0 k1 k2 k3 k4 k5 k6 k7 k8 d0 d1 d2; refine (HH.out.countsNo A x _ (HX10.out.pipesHere HIX.out) HXL.out.cost HXL.out.time HER.out).mono ?_; rintro e w11 ⟨a,c,rfl,hb11⟩; have HX11 := hid (HX10.out.later hb11); clear hb11; go_wp2_with fail
   go_ret
   exact ⟨by simp,HX11.out.below⟩
end Go.Proofs.YtfkommjlmolniaaGreatDoor
end
section

namespace Go.Proofs.YtfkommjlmolniaaGreatDoor
open Go.ChangeShapes Go.WideShapes Go.ChangeAt Go.RowKit
section
variable {H : Type} {enc : TypeId × Value → H} {w : World} {base : Nat} {spare : Nat → Bool} {held : Bool}
theorem cellsBlockB : Tryz.prog.cellsOf 44 = 3 := by kernel_rfl
set_option maxRecDepth 100000 in
theorem block_of {r : Reach} {b0 : Nat} {v : Value} {d : DataW H} {p : List MemPlace} (hv : Value.okWide Tryz.prog w r b0 44 v) (h : DataW.Trod enc Tryz.prog w base spare held 44 v d p) :
  ∃ k who z : Int,v = blkC k who z ∧ Fits k ∧ Fits who ∧ 0 ≤ z ∧ z < 18446744073709551616 := by
 obtain ⟨c0,c1,c2,y0,y1,y2,m,rfl,_,_,g0,g1,g2⟩ := Joins.open_agg3 Tryz.underlying44 (by kernel_rfl) cellsBlockB hv h
 obtain ⟨t,ht,_,wt⟩ := DataW.trod_int Tryz.underlying40 g0; obtain ⟨k,hk,_,wk⟩ := DataW.trod_int Tryz.underlying3 g1; obtain ⟨i,hi,_,wi⟩ := DataW.trod_int Tryz.underlying42 g2; simp only [List.cons.injEq,and_true] at ht hk hi
 subst ht hk hi; simp [Lit.wf,IntKind.min,IntKind.max,IntKind.signed,IntKind.bits] at wt wk wi
 exact ⟨t,k,i,rfl,by unfold Fits; omega,by unfold Fits; omega,by omega,by omega⟩
end
end Go.Proofs.YtfkommjlmolniaaGreatDoor
end
