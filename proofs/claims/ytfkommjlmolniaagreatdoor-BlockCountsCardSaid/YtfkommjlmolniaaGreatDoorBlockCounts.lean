
import Derived.Test.YtfkommjlmolniaaGreatDoorHsBAwake
import Derived.Test.YtfkommjlmolniaaGreatDoorHsBCounts
import Derived.Test.YtfkommjlmolniaaGreatDoorHd21
import Derived.Test.YtfkommjlmolniaaGreatDoorHd6
set_option linter.unusedVariables false
namespace Go.Proofs.YtfkommjlmolniaaGreatDoor
set_option maxHeartbeats 16000000
set_option maxRecDepth 100000
open Go.Lib (hid)
open Go.RowKit
theorem Z5a (H : BlockSpec) (R : ReachSpec) (A : SmA) (s : Sm) (w : World) (ht : TabD w) (hs : IsSm w.heap.size w A s) :
  Calls Tryz.prog 3 #[.agg (smC A s)] w fun e w' => e = .returned (.bool true) ∧ Below w.heap.size w w' := by
 have HTB := hid ht; have HH := hid H; have HRS := hid R; have HS := hid (SBox.make w A s); have HSM := hid hs; have HMK := hid (fun (W0 : World) (h : IsSm W0.heap.size W0 A s) => Z8j A s W0 h); have hmay := Zdl hs.okl; have hc6 : (makeI s).cus.length ≤ 6 := (Z4d s).2; obtain ⟨x,hx⟩ : ∃ x,makeI s = x := ⟨_,rfl⟩; rw [hx] at HMK hmay hc6; have HMAY := hid hmay; have hnc := hmay.nc; have hns := hmay.ns; clear hx hs hmay H R ht; unfold smC at *; go_enter Tryz.func3,Tryz.ntmps3
 go_wp2_with (first
  | (go_at_call 7; refine (Z5n HH.out HRS.out _ (Z09 HTB.out HS.out.below)).mono ?_; rintro e w1 ⟨rfl,hb1⟩; have HS1 := hid (HS.out.later hb1); obtain ⟨j0,j1,j2,j3,j4,j5,j6,j7,j8,j9,j10⟩ := HS1.out.cells; clear hb1)
  | (go_at_call 8; refine (HMK.out _ (HS1.out.here HSM.out)).mono ?_; rintro e w2 ⟨⟨A2,rfl,C,D,VK,VT,hown⟩,hb2⟩; have HB2 := hid (HS1.out.below.trans (hb2.mono HS1.out.below.size)); have HI2 := hid hown.is_; have HX3 := hid (XBox.make (Below.refl _ w2) A2 x); have HI3 := hid (HX3.out.pipesHere HI2.out); have HB3 := hid (HB2.out.trans (((Below.refl w2.heap.size w2).alloc (Nat.le_refl _) (.cells (insC A2 x) 34)).mono HB2.out.size)); obtain ⟨i0,i1,i2,i3,i4,i5,i6,i7,i8⟩ := HX3.out.cells; clear hown hb2 j0 j1 j2 j3 j4 j5 j6 j7 j8 j9 j10))
 obtain ⟨w3,hw3⟩ : ∃ z,z = w2.alloc (.cells #[.int .i64 x.en,.int .i64 x.tm,.int .i64 x.tr,.int .i64 x.bm,.int .i64 x.br,.slice A2.sa x.sats.length A2.sc,.slice A2.ca x.cus.length A2.cc,.slice A2.ka x.cost.length A2.kc,.slice A2.ta x.time.length A2.tc] 34) := ⟨_,rfl⟩; rw [← hw3] at HX3 HI3 HB3 ⊢; obtain ⟨gx,hgx⟩ : ∃ b,b = w2.heap.size := ⟨_,rfl⟩; rw [← hgx] at HX3 ⊢; clear hw3 hgx i0 i1 i2 i3 i4 i5 i6 i7 i8; have HX4 := hid (HX3.out.later (Below.refl _ _).drew); refine wp_region_held_drew (S := (fun Wz => Wz.heap[gx]? = some (.cells #[.int .i64 x.en,.int .i64 x.tm,.int .i64 x.tr,.int .i64 x.bm,.int .i64 x.br,.slice A2.sa x.sats.length A2.sc,.slice A2.ca x.cus.length A2.cc,.slice A2.ka x.cost.length A2.kc,.slice A2.ta x.time.length A2.tc] 34 (0,0)))) (by kernel_rfl) HX4.out.blk (fun hHeld => ?_)
 have HI4 : Hid (IsIns w3.drew.heap.size w3.drew A2 x) := hid (HI3.out.later (Below.refl _ _).drew); have HB4 : Hid (Below w.heap.size w w3.drew) := hid HB3.out.drew; refine stpT 0 hHeld ?_ (y := fun Wz hWz => by obtain ⟨k0,k1,k2,k3,k4,k5,k6,k7,k8,_⟩ := Z1f hWz; go_simp; (try with_reducible rfl))
 try simp only [Act.put,List.setIfInBounds_toArray,List.set_cons_zero,List.set_cons_succ,List.getElem_toArray,List.getElem_cons_zero]
 refine stpT 2 hHeld ?_ (y := fun Wz hWz => by obtain ⟨k0,k1,k2,k3,k4,k5,k6,k7,k8,_⟩ := Z1f hWz; go_simp; (try with_reducible rfl))
 try simp only [Act.put,List.setIfInBounds_toArray,List.set_cons_zero,List.set_cons_succ,List.getElem_toArray,List.getElem_cons_zero,List.getElem_cons_succ]
 refine stpR 1 (fun K hK => ?_); go_simp; refine (HH.out.counts A2 x _ HI4.out (Z09 HTB.out HB4.out) HMAY.out).mono ?_; rintro e w5 ⟨l,a,c,rfl,hn,hr,hb5⟩; have HX5 := hid (HX4.out.later hb5); have HI5 := hid ((HI4.out.later hb5).mono hb5.size); have HB5 := hid (HB4.out.trans (hb5.mono HB4.out.size)); have HN5 := hid hn; have HR5 := hid hr; clear hb5 hn hr; refine hK.out _ _ ?_ (fun hHeld => ?_)
 ·exact HX5.out.blk
 clear hK K; try simp only [Act.put,List.setIfInBounds_toArray,List.set_cons_zero,List.set_cons_succ,List.getElem_toArray,List.getElem_cons_zero,List.getElem_cons_succ]
 refine stpR 3 (fun K hK => ?_); go_simp; refine (Z3z A2 x _ HI5.out HMAY.out hc6).mono ?_; rintro e w6 ⟨m,a2,c2,rfl,hn,hr,hb6⟩; have HX6 := hid (HX5.out.later hb6); have HB6 := hid (HB5.out.trans (hb6.mono HB5.out.size)); have HN6 := hid hn; have HN5b := hid (HN5.out.later hb6); have hlm := HR5.out.unique hr; subst hlm; have hll : l.length ≤ 1000000 := by obtain ⟨p,-,hq⟩ := HR5.out; rw [hq.1]; omega
 clear hb6 hn hr; refine hK.out _ _ ?_ (fun hHeld => ?_)
 ·exact HX6.out.blk
 clear hK K; try simp only [Act.put,List.setIfInBounds_toArray,List.set_cons_zero,List.set_cons_succ,List.getElem_toArray,List.getElem_cons_zero,List.getElem_cons_succ]
 refine stpR 4 (fun K hK => ?_); go_simp; refine (Zhd _ HN5b.out HN6.out hll).mono ?_; rintro e w7 ⟨rfl,m7,rfl⟩; have hbd : Below w6.heap.size w6 (w6.drewN m7) := ⟨rfl,rfl,rfl,Nat.le_refl _,fun _ _ => rfl⟩; have HX7 := hid (HX6.out.later hbd); have HB7 := hid (HB6.out.trans (hbd.mono HB6.out.size)); refine hK.out _ _ ?_ (fun hHeld => ?_)
 ·exact HX7.out.blk
 clear hK K; try simp only 
 refine stpT 5 hHeld ?_ (y := fun Wz hWz => by clear hWz; go_simp; (try with_reducible rfl))
 try simp only [Act.put,List.setIfInBounds_toArray,List.set_cons_zero,List.set_cons_succ,List.getElem_toArray,List.getElem_cons_zero,List.getElem_cons_succ]
 refine wpAnyH_done (by kernel_rfl) ?_ _
 clear hHeld; go_wp2_with fail
 go_ret
 exact ⟨by simp,HB7.out⟩
end Go.Proofs.YtfkommjlmolniaaGreatDoor
