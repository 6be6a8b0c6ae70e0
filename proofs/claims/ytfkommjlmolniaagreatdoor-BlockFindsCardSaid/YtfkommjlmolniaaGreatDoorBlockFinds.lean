import Derived.Test.YtfkommjlmolniaaGreatDoorHsBAwake
import Derived.Test.YtfkommjlmolniaaGreatDoorHsBFind
import Derived.Test.YtfkommjlmolniaaGreatDoorHd21
set_option linter.unusedVariables false
namespace Go.Proofs.YtfkommjlmolniaaGreatDoor
set_option maxHeartbeats 16000000
set_option maxRecDepth 100000
open Go.Lib (hid)
open Go.RowKit
theorem Z5w (H:BlockSpec) (R:ReachSpec) (A:SmA) (s:Sm) (w:World) (ht:TabD w) (hs:IsSm w.heap.size w A s) :
  Calls Tryz.prog 4 #[.agg (smC A s)] w fun e w'=>e = .returned (.bool true) ∧ Below w.heap.size w w':=by
 have HTB:=hid ht;have HH:=hid H;have HRS:=hid R;have HS:=hid (SBox.make w A s);have HSM:=hid hs;have HMK:=hid (fun (W0:World) (h:IsSm W0.heap.size W0 A s)=>Z8j A s W0 h);have hmay:=Zdl hs.okl;have hc6:(makeI s).cus.length ≤ 6:=(Z4d s).2;obtain ⟨x,hx⟩:∃ x,makeI s = x:=⟨_,rfl⟩;rw [hx] at HMK hmay hc6;have HMAY:=hid hmay;have hnc:=hmay.nc;have hns:=hmay.ns;clear hx hs hmay H R ht;unfold smC at *;go_enter Tryz.func4,Tryz.ntmps4
 go_wp2_with (first
  | (go_at_call 7;refine (Z5n HH.out HRS.out _ (Z09 HTB.out HS.out.below)).mono ?_;rintro e w1 ⟨rfl,hb1⟩;have HS1:=hid (HS.out.later hb1);obtain ⟨j0,j1,j2,j3,j4,j5,j6,j7,j8,j9,j10⟩:=HS1.out.cells;clear hb1)
  | (go_at_call 8;refine (HMK.out _ (HS1.out.here HSM.out)).mono ?_;rintro e w2 ⟨⟨A2,rfl,C,D,VK,VT,hown⟩,hb2⟩;have HB2:=hid (HS1.out.below.trans (hb2.mono HS1.out.below.size));have HI2:=hid hown.is_;have HX3:=hid (XBox.make (Below.refl _ w2) A2 x);have HI3:=hid (HX3.out.pipesHere HI2.out);have HB3:=hid (HB2.out.trans (((Below.refl w2.heap.size w2).alloc (Nat.le_refl _) (.cells (insC A2 x) 34)).mono HB2.out.size));obtain ⟨i0,i1,i2,i3,i4,i5,i6,i7,i8⟩:=HX3.out.cells;clear hown hb2 j0 j1 j2 j3 j4 j5 j6 j7 j8 j9 j10))
 obtain ⟨w3,hw3⟩:∃ z,z = w2.alloc (.cells #[.int .i64 x.en,.int .i64 x.tm,.int .i64 x.tr,.int .i64 x.bm,.int .i64 x.br,.slice A2.sa x.sats.length A2.sc,.slice A2.ca x.cus.length A2.cc,.slice A2.ka x.cost.length A2.kc,.slice A2.ta x.time.length A2.tc] 34):=⟨_,rfl⟩;rw [← hw3] at HX3 HI3 HB3 ⊢;obtain ⟨gx,hgx⟩:∃ b,b = w2.heap.size:=⟨_,rfl⟩;rw [← hgx] at HX3 ⊢;clear hw3 hgx i0 i1 i2 i3 i4 i5 i6 i7 i8;refine (HH.out.find A2 x _ HI3.out (Z09 HTB.out HB3.out) HMAY.out).mono ?_;rintro e w5 ⟨k,who,z,rfl,hf,hb5⟩;have HX5:=hid (HX3.out.later hb5);have HI5:=hid ((HI3.out.later hb5).mono hb5.size);have HB5:=hid (HB3.out.trans (hb5.mono HB3.out.size));have HF5:=hid hf;obtain ⟨ok,hok⟩:∃ ok,decide (k ≠ 0) = ok:=⟨_,rfl⟩;rw [hok];have HOK:=hid hok;have hb6:=Z0q w5 (.cells #[.int .i64 (k:Int),.int .i64 (who:Int),.int .u64 (z:Int)] 44);have HX6:=hid (HX5.out.later hb6);have HI6:=hid ((HI5.out.later hb6).mono hb6.size);have HB6:=hid (HB5.out.trans (hb6.mono HB5.out.size));have HK6:=hid (heap_alloc_new w5 (.cells #[.int .i64 (k:Int),.int .i64 (who:Int),.int .u64 (z:Int)] 44));obtain ⟨i0,i1,i2,i3,i4,i5,i6,i7,i8⟩:=HX6.out.cells;clear hb5 hb6 hf hok HX5 HI5 HB5 HX3 HI3 HB3;go_wp2_with fail
 obtain ⟨w6,hw6⟩:∃ W9,w5.alloc (.cells #[.int .i64 (k:Int),.int .i64 (who:Int),.int .u64 (z:Int)] 44) = W9:=⟨_,rfl⟩;obtain ⟨gb,hgb⟩:∃ b,w5.heap.size = b:=⟨_,rfl⟩;rw [hw6] at HX6 HI6 HB6 HK6 ⊢;rw [hgb] at HK6 ⊢;clear hw6 hgb i0 i1 i2 i3 i4 i5 i6 i7 i8;refine (Zgl A2 x _ HI6.out HMAY.out hc6).mono ?_;rintro e w7 ⟨k2,who2,z2,rfl,hf,hb7⟩;obtain ⟨rfl,rfl,rfl⟩:=HF5.out.unique HMAY.out hf;rw [HOK.out];have HB7:=hid (HB6.out.trans (hb7.mono HB6.out.size));have hb8:=Z0q w7 (.cells #[.int .i64 (k:Int),.int .i64 (who:Int),.int .u64 (z:Int)] 44);have HB8:=hid (HB7.out.trans (hb8.mono HB7.out.size));have hlt:=(Array.getElem?_eq_some_iff.1 HK6.out).1;have hk8:=(hb8.block _ (Nat.lt_of_lt_of_le hlt hb7.size)).trans ((hb7.block _ hlt).trans HK6.out);have d0:(w7.alloc (.cells #[.int .i64 (k:Int),.int .i64 (who:Int),.int .u64 (z:Int)] 44)).cell? ⟨gb,0,none⟩ = some (.int .i64 (k:Int)):=by simp [World.cell?,hk8]
 have d1:(w7.alloc (.cells #[.int .i64 (k:Int),.int .i64 (who:Int),.int .u64 (z:Int)] 44)).cell? ⟨gb,1,none⟩ = some (.int .i64 (who:Int)):=by simp [World.cell?,hk8]
 have d2:(w7.alloc (.cells #[.int .i64 (k:Int),.int .i64 (who:Int),.int .u64 (z:Int)] 44)).cell? ⟨gb,2,none⟩ = some (.int .u64 (z:Int)):=by simp [World.cell?,hk8]
 clear hf hb7 hb8 hk8 hlt;go_wp2_with fail
 go_ret
 exact ⟨by simp,HB8.out⟩
end Go.Proofs.YtfkommjlmolniaaGreatDoor
