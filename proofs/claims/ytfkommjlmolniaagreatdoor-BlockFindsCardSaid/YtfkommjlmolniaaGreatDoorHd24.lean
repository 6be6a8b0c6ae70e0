/- Joined: BWorst, BJudge. -/
import Derived.Test.YtfkommjlmolniaaGreatDoorHsBNet
import Derived.Test.YtfkommjlmolniaaGreatDoorHsFMost
import Derived.Test.YtfkommjlmolniaaGreatDoorHsFCut
import Derived.Maps.RangeWalk
import Derived.Test.YtfkommjlmolniaaGreatDoorHd6
set_option linter.unusedVariables false
section

namespace Go.Proofs.YtfkommjlmolniaaGreatDoor
set_option maxHeartbeats 16000000
set_option maxRecDepth 100000
open Go.Lib (hid)
open Go.RowKit
variable {w wr w2 : World} {V : VA} {y : Vw} {g c s z t n gn cp : Nat} {k N : Int} {a : Option Addr} {d : Nat → Bool}
theorem Z9p {B N g cap i : Nat} (h : Z8d w B (.slice (some ⟨g,0,none⟩) N cap) N d) (hi : i < N) : w.cell? ⟨g,i,none⟩ = some (.bool (d i)) := by
 have := World.ownsRow.cells h (g := g) rfl i (.bool (d i)) (Za5 d hi); simpa [Addr.add_lit] using this
theorem Znu {B sz : Nat} {T : TypeId} {v : Value} {xs : List Value} (h : w.ownsRow B T sz v n xs) (h0 : 0 < n) : ∃ g cap,v = .slice (some ⟨g,0,none⟩) n cap ∧ g < w.heap.size := by
 obtain ⟨g,cap,e,_,h1,_⟩ := Z0x h h0; exact ⟨g,cap,e,h1⟩
theorem Zk3 {k : Nat} {f : Nat → Bool} (h : ServeTo z k f) : z < 2 ^ k := by
 apply Nat.lt_of_not_le
 intro hge; obtain ⟨i,hi,hb⟩ := Nat.exists_ge_and_testBit_of_ge_two_pow hge; rcases Nat.lt_or_ge i 64 with h1 | h1
 ·rw [h.2 i h1,decide_eq_false (by omega),Bool.false_and] at hb
  cases hb
 ·rw [Z5i h.1 i h1] at hb
  cases hb
structure TwoB (w wr : World) (gn : Nat) (V : VA) (y : Vw) (N : Int) (a : Option Addr) (n cp : Nat) : Prop where
 bx : VBox w wr w.heap.size V y
 net : wr.heap[gn]? = some (.cells #[.int .i64 N,.slice a n cp] 105 (0,0))
theorem TwoB.later (h : TwoB w wr gn V y N a n cp) (hb : Below wr.heap.size wr w2) : TwoB w w2 gn V y N a n cp := ⟨h.bx.later hb,(hb.block _ (Array.getElem?_eq_some_iff.1 h.net).1).trans h.net⟩
theorem TwoB.held (h : TwoB w wr gn V y N a n cp) : wr.heap[w.heap.size]? = some (.cells (viewC V y) 65 (0,0)) ∧ wr.heap[gn]? = some (.cells #[.int .i64 N,.slice a n cp] 105 (0,0)) := ⟨h.bx.blk,h.net⟩
def Znv (y : Vw) (k : Int) (z : Nat) : Prop := IsBest y.x.cus.length (Z0r y.x.cus.length y.x.sats.length y.p (needI y.x k) (Z0e y k)) z ∨ (Z2e y.x.cus.length (Z0r y.x.cus.length y.x.sats.length y.p (needI y.x k) (Z0e y k)) ∧ z < 2 ^ y.x.cus.length)
theorem Z74 (V : VA) (y : Vw) (k : Int) (w : World) (hi : IsView w.heap.size w V y) (ht : TabD w) (ho : y.Ok) :
  Calls Tryz.prog 36 #[.agg (viewC V y),.int .i64 k] w fun e w' => ∃ z : Nat,e = .returned (.int .u64 (z : Int)) ∧ z < 18446744073709551616 ∧ Znv y k z ∧ Below w.heap.size w w' := by
 have HX := hid (VBox.make (Below.refl _ w) V y); have HI := hid hi; have HT := hid ht; have HO := hid ho; have hns := ho.may.ns; have hnc := ho.may.nc; have HNS := hid (show y.x.sats.length + y.x.cus.length ≤ 1000 by omega)
 have HNS2 := hid (show y.x.sats.length ≤ 1000 by omega)
 obtain ⟨c0,c1,c2,c3,c4,c5,c6,c7,c8,c9,c10⟩ := Z0c HX.out.blk; have HND : Hid (1 + y.x.sats.length + y.x.cus.length = y.nd) := hid rfl; obtain ⟨ND,hND⟩ : ∃ ND,y.nd = ND := ⟨_,rfl⟩; have hnd : ND ≤ 61 := by rw [← hND]; unfold Vw.nd; omega
 have HNDN := hid hND; have HNA := hid (fun (W : World) (h : IsView W.heap.size W V y) (h2 : TabD W) => Zmm V y k W h h2 ho); have HEN := hid (Zjy ho k); have HCK := hid (Z9d ho k); have HNOK := hid (Zm6 ho k); have HCUT := hid (Zmo ho k); obtain ⟨L,hL⟩ : ∃ L,netL y k y.x.sats.length = L := ⟨_,rfl⟩; rw [hL] at HNA HEN HCK HNOK HCUT; rw [hND] at HNA HEN HCK HNOK HCUT; clear hi ht ho hND hL; unfold viewC at *; go_enter Tryz.func36,Tryz.ntmps36
 go_upto_region 1 with fail
 obtain ⟨W0,hW0⟩ : ∃ W0,w.alloc (.cells (viewC V y) 65) = W0 := ⟨_,rfl⟩; unfold viewC at hW0; rw [hW0] at HX c0 c1 c2 c3 c4 c5 c6 c7 c8 c9 c10; rw [hW0]; clear hW0; go_wp2_with (go_at_call 55; refine (HNA.out _ (HX.out.view HI.out) (Z09 HT.out HX.out.below)).mono ?_; rintro e w1 ⟨a,cp,rfl,hp,hb1⟩; have HP1 := hid hp; have HX1 := hid (HX.out.later hb1); clear hp hb1 c0 c1 c2 c3 c4 c5 c6 c7 c8 c9 c10)
 have hb2 := Z0g w1 (.cells #[.int .i64 ((ND + 1 : Nat) : Int),.slice a L.length cp] 105); have HTB : Hid (TwoB w (w1.alloc (.cells #[.int .i64 ((ND + 1 : Nat) : Int),.slice a L.length cp] 105)) w1.heap.size V y ((ND + 1 : Nat) : Int) a L.length cp) := hid ⟨HX1.out.later hb2,heap_alloc_new _ _⟩; have HP2 := hid ((HP1.out.later hb2).mono hb2.size); obtain ⟨M,hM⟩ : ∃ M : Nat,ND + 1 = M := ⟨_,rfl⟩; have hM2 : ((ND : Int) + 1) = (M : Int) := by omega
 rw [hM] at HTB HP2 HEN HCK HNOK; try rw [hM2]
 try rw [hM]
 obtain ⟨W1,hW1⟩ : ∃ W9,w1.alloc (.cells #[.int .i64 (M : Int),.slice a L.length cp] 105) = W9 := ⟨_,rfl⟩; obtain ⟨gn,hgn⟩ : ∃ g9,w1.heap.size = g9 := ⟨_,rfl⟩; rw [hW1,hgn] at HTB; rw [hW1] at HP2; rw [hW1,hgn]; have HM := hid hM; clear hW1 hgn hb2 HP1 HX1 HX hM hM2; have HTB1 := hid (HTB.out.later (Below.refl _ W1).drew); have HP3 := hid ((HP2.out.later (Below.refl _ W1).drew).mono (Below.refl W1.heap.size W1).drew.size); obtain ⟨v0,hv0⟩ : ∃ v9,World.drew W1 = v9 := ⟨_,rfl⟩; rw [hv0] at HTB1 HP3; refine wp_region_held_drew (S := fun Wz => Wz.heap[w.heap.size]? = some (.cells (viewC V y) 65 (0,0)) ∧ Wz.heap[gn]? = some (.cells #[.int .i64 (M : Int),.slice a L.length cp] 105 (0,0))) (by kernel_rfl) (by rw [hv0]; exact HTB1.out.held) (fun hHeld => ?_)
 rw [hv0] at hHeld ⊢; clear hv0 HTB HP2; refine stpT 0 hHeld ?_ (y := fun Wz hWz => by obtain ⟨c0,c1,c2,c3,c4,c5,c6,c7,c8,c9,c10⟩ := Z0c hWz.1; obtain ⟨d0,d1⟩ := Z6x hWz.2; clear hWz; go_simp; (try with_reducible rfl))
 try simp only [Act.put,layT]
 refine stpT 1 hHeld ?_ (y := fun Wz hWz => by obtain ⟨c0,c1,c2,c3,c4,c5,c6,c7,c8,c9,c10⟩ := Z0c hWz.1; obtain ⟨d0,d1⟩ := Z6x hWz.2; clear hWz; go_simp; (try with_reducible rfl))
 try simp only [Act.put,layT]
 refine stpR 2 (fun K hK => ?_); go_simp; refine (Z2q V y _ HNS.out).mono ?_; rw [HND.out,HNDN.out]; rintro e v1 ⟨rfl,hbn⟩; have HTB2 := hid (HTB1.out.later hbn); have HP4 := hid ((HP3.out.later hbn).mono hbn.size); clear hbn HTB1 HP3; refine hK.out _ _ ?_ (fun hHeld => ?_)
 ·exact HTB2.out.held
 clear hK K; try simp only [Act.put,layT]
 refine stpR 3 (fun K hK => ?_); go_simp; refine (Zke M ND 0 L.length cp L a _ HEN.out HP4.out).mono ?_; rintro e v2 ⟨hbn,lv,fl,much,rfl,hlr,hmost⟩; have HTB3 := hid (HTB2.out.later hbn); have HP5 := hid ((HP4.out.later hbn).mono hbn.size); obtain ⟨fa,fc,rfl⟩ := Z04 hlr; have HFL := hid hlr.nums0; have HMOST := hid hmost; clear hbn HTB2 HP4 hlr hmost; refine hK.out _ _ ?_ (fun hHeld => ?_)
 ·exact HTB3.out.held
 clear hK K; try simp only [Act.put,layT]
 refine stpT 4 hHeld ?_ (y := fun Wz hWz => by clear hWz; go_simp; (try with_reducible rfl))
 try simp only [Act.put,layT]
 refine stpT 5 hHeld ?_ (y := fun Wz hWz => by clear hWz; go_simp; (try with_reducible rfl))
 try simp only [Act.put,layT]
 refine stpT 6 hHeld ?_ (y := fun Wz hWz => by clear hWz; go_simp; (try with_reducible rfl))
 try simp only [Act.put,layT]
 refine stpT 7 hHeld ?_ (y := fun Wz hWz => by clear hWz; go_simp; (try with_reducible rfl))
 try simp only [Act.put,layT]
 refine stpT 8 hHeld ?_ (y := fun Wz hWz => by clear hWz; go_simp; (try with_reducible rfl))
 try simp only [Act.put,layT]
 refine stpT 9 hHeld ?_ (y := fun Wz hWz => by clear hWz; go_simp; (try with_reducible rfl))
 try simp only [Act.put,layT]
 refine stpT 10 hHeld ?_ (y := fun Wz hWz => by clear hWz; go_simp; (try with_reducible rfl))
 try simp only [Act.put,layT]
 refine wpAnyH_done (by kernel_rfl) ?_ _
 clear hHeld; go_wp2_with fail
 have HTB4 := hid (HTB3.out.later (Below.refl _ v2).drew); have HP6 := hid ((HP5.out.later (Below.refl _ v2).drew).mono (Below.refl v2.heap.size v2).drew.size); have HFL4 := hid ((HFL.out.later (Below.refl _ v2).drew).mono (Below.refl v2.heap.size v2).drew.size); obtain ⟨v3,hv3⟩ : ∃ v9,World.drew v2 = v9 := ⟨_,rfl⟩; rw [hv3] at HTB4 HP6 HFL4; refine wp_region_held_drew (S := fun Wz => Wz.heap[w.heap.size]? = some (.cells (viewC V y) 65 (0,0)) ∧ Wz.heap[gn]? = some (.cells #[.int .i64 (M : Int),.slice a L.length cp] 105 (0,0))) (by kernel_rfl) (by rw [hv3]; exact HTB4.out.held) (fun hHeld => ?_)
 rw [hv3] at hHeld ⊢; clear hv3 HTB3 HP5 HFL; refine stpT 0 hHeld ?_ (y := fun Wz hWz => by obtain ⟨c0,c1,c2,c3,c4,c5,c6,c7,c8,c9,c10⟩ := Z0c hWz.1; obtain ⟨d0,d1⟩ := Z6x hWz.2; clear hWz; go_simp; (try with_reducible rfl))
 try simp only [Act.put,layT]
 refine stpT 1 hHeld ?_ (y := fun Wz hWz => by obtain ⟨c0,c1,c2,c3,c4,c5,c6,c7,c8,c9,c10⟩ := Z0c hWz.1; obtain ⟨d0,d1⟩ := Z6x hWz.2; clear hWz; go_simp; (try with_reducible rfl))
 try simp only [Act.put,layT]
 refine stpT 2 hHeld ?_ (y := fun Wz hWz => by obtain ⟨c0,c1,c2,c3,c4,c5,c6,c7,c8,c9,c10⟩ := Z0c hWz.1; obtain ⟨d0,d1⟩ := Z6x hWz.2; clear hWz; go_simp; (try with_reducible rfl))
 try simp only [Act.put,layT]
 refine stpR 3 (fun K hK => ?_); go_simp; refine (Z2q V y _ HNS.out).mono ?_; rw [HND.out,HNDN.out]; rintro e v4 ⟨rfl,hbn⟩; have HTB5 := hid (HTB4.out.later hbn); have HP7 := hid ((HP6.out.later hbn).mono hbn.size); have HFL5 := hid ((HFL4.out.later hbn).mono hbn.size); clear hbn HTB4 HP6 HFL4; refine hK.out _ _ ?_ (fun hHeld => ?_)
 ·exact HTB5.out.held
 clear hK K; try simp only [Act.put,layT]
 refine stpR 4 (fun K hK => ?_); go_simp; refine (Zn1 M ND L.length cp L a fc _ fa _ HCK.out (by have := HM.out; omega) HP7.out HFL5.out).mono ?_
 rintro e v5 ⟨hbn,bv,d,rfl,hbr,hd⟩; have HTB6 := hid (HTB5.out.later hbn); obtain ⟨bg,bc,rfl,hbg⟩ := Znu hbr (by have := HM.out; omega)
 have HBR := hid hbr; have HD := hid hd; clear hbn HTB5 HP7 HFL5 hbr hd; refine hK.out _ _ ?_ (fun hHeld => ?_)
 ·exact HTB6.out.held
 clear hK K; try simp only [Act.put,layT]
 refine stpT 5 hHeld ?_ (y := fun Wz hWz => by clear hWz; go_simp; (try with_reducible rfl))
 try simp only [Act.put,layT]
 refine wpAnyH_done (by kernel_rfl) ?_ _
 clear hHeld; have HXB := hid HTB6.out.bx; obtain ⟨c0,c1,c2,c3,c4,c5,c6,c7,c8,c9,c10⟩ := Z0c HXB.out.blk; go_wp2_with fail
 clear c0 c1 c2 c3 c4 c5 c6 c7 c8 c9 c10; have HZ0 := hid (ServeTo.zero (fun c => d (y.cn c))); go_loopw [10,32] (fun zv iv wr => ∃ i z : Nat,iv = .int .i64 (i : Int) ∧ zv = .int .u64 (z : Int) ∧ i ≤ y.x.cus.length ∧ Hid (ServeTo z i (fun c => d (y.cn c))) ∧ Hid (VBox w wr w.heap.size V y) ∧ Hid (Z8d wr v4.heap.size (.slice (some ⟨bg,0,none⟩) M bc) M d)) (fun _ iv _ => y.x.cus.length - (intOf iv).toNat)
 case atStart => exact ⟨0,0,rfl,rfl,Nat.zero_le _,HZ0,HXB,HBR⟩
 case round =>
  obtain ⟨i,z,rfl,rfl,hi,HS,HXR,HBO⟩ := hrel; clear HZ0 HXB HBR; by_cases hlt : i < y.x.cus.length
  ·have HCN : Hid (wrap64 (1 + (y.x.sats.length : Int) + (i : Int)) = ((y.cn i : Nat) : Int)) := hid (by rw [IntWalk.wrap64_in _ (by omega)]; unfold Vw.cn; omega)
   have hcn : y.cn i < M := by have h1 := HM.out; have h2 := HNDN.out; unfold Vw.nd at h2; unfold Vw.cn; omega
   have HCNL := hid hcn; obtain ⟨c0,c1,c2,c3,c4,c5,c6,c7,c8,c9,c10⟩ := Z0c HXR.out.blk; obtain ⟨q,hq⟩ : ∃ q,y.cn i = q := ⟨_,rfl⟩; rw [hq] at HCN HCNL hcn; have HQ := hid hq; have hq1 : (0 : Int) ≤ (q : Int) := by omega
   have hq2 : (q : Int) < (M : Int) := by omega
   clear hq hcn; cases hdc : d q with
   | false =>
    have HN := hid (HS.out.no (f := fun c => d (y.cn c)) (by simp only [HQ.out,hdc]))
    have HDC := hid hdc; clear hdc; go_wp2_with (go_at_call 49; refine (Z13 V.A y.x (i : Int) _ HNS2.out).mono ?_; rw [HCN.out]; rintro e w9 ⟨rfl,hb9⟩; have HX9 := hid (HXR.out.later hb9); have HB9 := hid (Z06 HBO.out hb9); have r0 := (Z9p HB9.out HCNL.out); rw [HDC.out] at r0; clear hb9 c0 c1 c2 c3 c4 c5 c6 c7 c8 c9 c10)
    go_roundw
    case rel => exact ⟨i + 1,z,by go_num,rfl,by omega,HN,HX9,HB9⟩
    case measure => simp [intOf]; omega
   | true =>
    have HN := hid (HS.out.yes (f := fun c => d (y.cn c)) (by simp only [HQ.out,hdc]) (by omega))
    have HZL := hid HS.out.1; have HDC := hid hdc; clear hdc; go_wp2_with (first
     | (go_at_call 49; refine (Z13 V.A y.x (i : Int) _ HNS2.out).mono ?_; rw [HCN.out]; rintro e w9 ⟨rfl,hb9⟩; have HX9 := hid (HXR.out.later hb9); have HB9 := hid (Z06 HBO.out hb9); have r0 := (Z9p HB9.out HCNL.out); rw [HDC.out] at r0; clear hb9 c0 c1 c2 c3 c4 c5 c6 c7 c8 c9 c10)
     | (go_at_call 59; refine (Z5l z HZL.out _ _).mono ?_; rintro e w8 ⟨rfl,rfl⟩))
    go_roundw
    case rel => exact ⟨i + 1,_,by go_num,rfl,by omega,HN,HX9,HB9⟩
    case measure => simp [intOf]; omega
  ·obtain rfl : i = y.x.cus.length := by omega
   go_wp2_with fail
   go_ret
   refine ⟨z,rfl,HS.out.1,?_,HXR.out.below⟩; have hnc2 : y.x.cus.length ≤ 64 := by omega
   have hz2 : z < 2 ^ y.x.cus.length := Zk3 HS.out; have hzb : ∀ c,c < y.x.cus.length → z.testBit c = d (y.cn c) := fun c hc => by rw [HS.out.2 c (by omega),decide_eq_true hc,Bool.true_and]
   have hflw : flOf ((List.range L.length).map fl) = fun k => flOf ((List.range L.length).map fl) k := rfl; have hd : ∀ i,i < M → (d i = true ↔ Res L fl ND i) := fun i hi => (HD.out i hi).trans ⟨fun h => h.congr (fun k hk => Za6 rfl k hk),fun h => h.congr (fun k hk => (Za6 rfl k hk).symm)⟩; obtain ⟨h1,h2⟩ := HCUT.out.found HMOST.out HNOK.out (by have := HM.out; omega) (by have := HM.out; omega) (by have h3 := HNDN.out; unfold Vw.nd at h3; omega) hd (fun c hc => by have h3 := HM.out; have h4 := HNDN.out; unfold Vw.nd at h4; unfold Vw.cn; omega) (fun c hc => (Z3k HO.out.may k hc).1) (fun q hq => (Z47 HO.out k hq).1) hz2 hzb
   by_cases hm : much < sumD (needI y.x k) y.x.cus.length
   ·exact .inl (h1 hm)
   ·exact .inr ⟨h2 hm,hz2⟩
 end Go.Proofs.YtfkommjlmolniaaGreatDoor
 
end
section

namespace Go.Proofs.YtfkommjlmolniaaGreatDoor
set_option maxHeartbeats 16000000
set_option maxRecDepth 100000
open Go.Lib (hid)
open Go.RowKit
variable {w wr w2 : World} {V : VA} {y : Vw} {B g c s z t n : Nat} {f : Nat → Bool}
theorem Zjt (ht : ServeTo t n f) (hn : n ≤ 64) : t = 0 ↔ ∀ s,s < n → f s = false := by
 constructor
 ·intro h s hs
  have h1 := ht.2 s (by omega)
  rw [h,Nat.zero_testBit,decide_eq_true hs,Bool.true_and] at h1; exact h1.symm
 ·intro h
  refine Zd3 ht.1 (by decide) fun i hi => ?_
  rw [ht.2 i hi,Nat.zero_testBit]; by_cases e : i < n
  ·rw [h i e,Bool.and_false]
  ·rw [decide_eq_false e,Bool.false_and]
theorem Zcs (hc : c < 64) : fromF y (ofN [(c : Int)]) s = y.p s c := by
 have hb : ∀ i,i < 64 → (ofN [(c : Int)]).testBit i = decide (c = i) := fun i hi => by
  rw [Zms _ _ hi]; unfold inB; simp only [List.any_cons,List.any_nil,Bool.or_false]
  congr 1
  apply propext
  omega
 unfold fromF Vw.p; apply Bool.eq_iff_iff.2
 rw [decide_eq_true_eq]; constructor
 ·intro h
  cases e : (y.zs.getD s 0).testBit c with
  | true => rfl
  | false =>
   refine absurd ?_ h; rw [Nat.and_comm]; refine Zcv (Zh5 _) fun i hi h1 h2 => ?_; rw [hb i hi,decide_eq_true_eq] at h1; subst h1; rw [e] at h2; cases h2
 ·intro h h0
  have h3 : (y.zs.getD s 0 &&& ofN [(c : Int)]).testBit c = true := by rw [Nat.testBit_and,h,hb c hc,decide_eq_true rfl]; rfl
  rw [h0,Nat.zero_testBit] at h3; cases h3
structure RBox (w wr : World) (V : VA) (y : Vw) (k who z : Int) : Prop where
 bx : VBox w wr w.heap.size V y
 blk : wr.heap[w.heap.size + 1]? = some (.cells #[.int .i64 k,.int .i64 who,.int .u64 z] 44 (0,0))
theorem RBox.make (w : World) (V : VA) (y : Vw) (k who z : Int) : RBox w ((w.alloc (.cells (viewC V y) 65)).alloc (.cells #[.int .i64 k,.int .i64 who,.int .u64 z] 44)) V y k who z := by
 have hz1 : (w.alloc (.cells (viewC V y) 65)).heap.size = w.heap.size + 1 := by simp
 have hR := heap_alloc_new (w.alloc (.cells (viewC V y) 65)) (.cells #[.int .i64 k,.int .i64 who,.int .u64 z] 44); rw [hz1] at hR; exact ⟨(VBox.make (Below.refl _ w) V y).later (Z0g _ _),hR⟩
theorem RBox.later {k who z : Int} (h : RBox w wr V y k who z) (hb : Below wr.heap.size wr w2) : RBox w w2 V y k who z := ⟨h.bx.later hb,(hb.block _ (Array.getElem?_eq_some_iff.1 h.blk).1).trans h.blk⟩
theorem RBox.cells {k who z : Int} (h : RBox w wr V y k who z) : wr.cell? ⟨w.heap.size + 1,0,none⟩ = some (.int .i64 k) ∧ wr.cell? ⟨w.heap.size + 1,1,none⟩ = some (.int .i64 who) ∧ wr.cell? ⟨w.heap.size + 1,2,none⟩ = some (.int .u64 z) := by
 have hb := h.blk; simp [World.cell?,hb]
theorem Z5p (V : VA) (y : Vw) (c : Nat) (hc : c < y.x.cus.length) (w : World) (hi : IsView w.heap.size w V y) (ht : TabD w) (ho : y.Ok) :
  Calls Tryz.prog 29 #[.agg (viewC V y),.agg #[.int .i64 1,.int .i64 (c : Int),.int .u64 0]] w fun e w' => e = .returned (.bool (decide (y.x.br < ldI y.x c))) ∧ Below w.heap.size w w' := by
 have HX := hid (RBox.make w V y 1 (c : Int) 0); have HI := hid hi; have HT := hid ht; have HO := hid ho; have hns := ho.may.ns; have hnc := ho.may.nc; have hnz := ho.nz; have HC := hid hc; have g1 : (0 : Int) ≤ (c : Int) := by omega
 have g2 : (c : Int) < (y.x.cus.length : Int) := by omega
 obtain ⟨W0,hW0⟩ : ∃ W9,(w.alloc (.cells (viewC V y) 65)).alloc (.cells #[.int .i64 1,.int .i64 (c : Int),.int .u64 0] 44) = W9 := ⟨_,rfl⟩; rw [hW0] at HX; have HW0 := hid hW0; obtain ⟨d0,d1,d2⟩ := HX.out.cells; obtain ⟨c0,c1,c2,c3,c4,c5,c6,c7,c8,c9,c10⟩ := Z0c HX.out.bx.blk; clear hi ht ho hW0 hnz; unfold viewC at HW0; unfold viewC; go_enter Tryz.func29,Tryz.ntmps29
 go_upto_region 1 with fail
 rw [HW0.out]; clear HW0; go_wp2_with (go_at_call 42; refine (Zgn V y c _ (HX.out.bx.view HI.out) HC.out).mono ?_; rintro e w5 ⟨rfl,hb5⟩; have HX5 := hid (HX.out.later hb5); clear hb5)
 go_ret
 exact ⟨by simp,HX5.out.bx.below⟩
theorem Z4m (V : VA) (y : Vw) (c : Nat) (hc : c < y.x.cus.length) (w : World) (hi : IsView w.heap.size w V y) (ht : TabD w) (ho : y.Ok) :
  Calls Tryz.prog 29 #[.agg (viewC V y),.agg #[.int .i64 2,.int .i64 (c : Int),.int .u64 0]] w fun e w' => ∃ b,e = .returned (.bool b) ∧ (b = true ↔ ∀ s,s < y.x.sats.length → y.p s c = false) ∧ Below w.heap.size w w' := by
 have HX := hid (RBox.make w V y 2 (c : Int) 0); have HI := hid hi; have HT := hid ht; have HO := hid ho; have hns := ho.may.ns; have hnc := ho.may.nc; have hnz := ho.nz; have HC := hid (show c < 64 by omega)
 have HZL := hid (show y.zs.length ≤ 60 by omega)
 have HNZ := hid hnz; have g1 : (0 : Int) ≤ (c : Int) := by omega
 have g2 : (c : Int) < (y.x.cus.length : Int) := by omega
 obtain ⟨W0,hW0⟩ : ∃ W9,(w.alloc (.cells (viewC V y) 65)).alloc (.cells #[.int .i64 2,.int .i64 (c : Int),.int .u64 0] 44) = W9 := ⟨_,rfl⟩; rw [hW0] at HX; have HW0 := hid hW0; obtain ⟨d0,d1,d2⟩ := HX.out.cells; obtain ⟨c0,c1,c2,c3,c4,c5,c6,c7,c8,c9,c10⟩ := Z0c HX.out.bx.blk; clear hi ht ho hW0 hnz; unfold viewC at HW0; unfold viewC; go_enter Tryz.func29,Tryz.ntmps29
 go_upto_region 1 with fail
 rw [HW0.out]; clear HW0; go_wp2_with (go_at_call 42; refine (Zem V y c _ (HX.out.bx.view HI.out) HC.out HZL.out).mono ?_; rintro e w5 ⟨t,rfl,hst,hb5⟩; have HX5 := hid (HX.out.later hb5); have HST := hid hst; clear hb5 hst)
 go_ret
 refine ⟨decide (t = 0),by simp,?_,HX5.out.bx.below⟩
 rw [decide_eq_true_eq,Zjt HST.out (by have := HZL.out; omega),HNZ.out]
 constructor
 ·intro h s hs
  rw [← Zcs HC.out]; exact h s hs
 ·intro h s hs
  rw [Zcs HC.out]; exact h s hs
theorem Z98 (V : VA) (y : Vw)  (w : World) (hi : IsView w.heap.size w V y) (ht : TabD w) (ho : y.Ok) :
  Calls Tryz.prog 29 #[.agg (viewC V y),.agg #[.int .i64 3,.int .i64 0,.int .u64 0]] w fun e w' => e = .returned (.bool (decide (y.x.tm * y.x.tr < Z27 y.x))) ∧ Below w.heap.size w w' := by
 have HX := hid (RBox.make w V y 3 0 0); have HI := hid hi; have HT := hid ht; have HO := hid ho; have hns := ho.may.ns; have hnc := ho.may.nc; have hnz := ho.nz; obtain ⟨W0,hW0⟩ : ∃ W9,(w.alloc (.cells (viewC V y) 65)).alloc (.cells #[.int .i64 3,.int .i64 0,.int .u64 0] 44) = W9 := ⟨_,rfl⟩; rw [hW0] at HX; have HW0 := hid hW0; obtain ⟨d0,d1,d2⟩ := HX.out.cells; obtain ⟨c0,c1,c2,c3,c4,c5,c6,c7,c8,c9,c10⟩ := Z0c HX.out.bx.blk; clear hi ht ho hW0 hnz; unfold viewC at HW0; unfold viewC; go_enter Tryz.func29,Tryz.ntmps29
 go_upto_region 1 with fail
 rw [HW0.out]; clear HW0; go_wp2_with (go_at_call 43; refine (Zgm V y y.x.tm y.x.tr _ (HX.out.bx.view HI.out) HO.out.may (by have := HO.out.may.tm; omega) (by have := HO.out.may.tr; omega)).mono ?_; rintro e w5 ⟨rfl,hb5⟩; have HX5 := hid (HX.out.later hb5); clear hb5)
 go_ret
 exact ⟨by simp,HX5.out.bx.below⟩
theorem Zbh (V : VA) (y : Vw)  (w : World) (hi : IsView w.heap.size w V y) (ht : TabD w) (ho : y.Ok) :
  Calls Tryz.prog 29 #[.agg (viewC V y),.agg #[.int .i64 4,.int .i64 0,.int .u64 0]] w fun e w' => e = .returned (.bool (decide (y.x.bm * y.x.br < Z27 y.x))) ∧ Below w.heap.size w w' := by
 have HX := hid (RBox.make w V y 4 0 0); have HI := hid hi; have HT := hid ht; have HO := hid ho; have hns := ho.may.ns; have hnc := ho.may.nc; have hnz := ho.nz; obtain ⟨W0,hW0⟩ : ∃ W9,(w.alloc (.cells (viewC V y) 65)).alloc (.cells #[.int .i64 4,.int .i64 0,.int .u64 0] 44) = W9 := ⟨_,rfl⟩; rw [hW0] at HX; have HW0 := hid hW0; obtain ⟨d0,d1,d2⟩ := HX.out.cells; obtain ⟨c0,c1,c2,c3,c4,c5,c6,c7,c8,c9,c10⟩ := Z0c HX.out.bx.blk; clear hi ht ho hW0 hnz; unfold viewC at HW0; unfold viewC; go_enter Tryz.func29,Tryz.ntmps29
 go_upto_region 1 with fail
 rw [HW0.out]; clear HW0; go_wp2_with (go_at_call 43; refine (Zgm V y y.x.bm y.x.br _ (HX.out.bx.view HI.out) HO.out.may (by have := HO.out.may.bm; omega) (by have := HO.out.may.br; omega)).mono ?_; rintro e w5 ⟨rfl,hb5⟩; have HX5 := hid (HX.out.later hb5); clear hb5)
 go_ret
 exact ⟨by simp,HX5.out.bx.below⟩
theorem Zen (V : VA) (y : Vw) (z : Nat) (hz : z < 18446744073709551616) (hcu : custB y.x.cus.length z = true) (w : World) (hi : IsView w.heap.size w V y) (ht : TabD w) (ho : y.Ok) :
  Calls Tryz.prog 29 #[.agg (viewC V y),.agg #[.int .i64 5,.int .i64 0,.int .u64 (z : Int)]] w fun e w' => e = .returned (.bool (decide (0 < Z0r y.x.cus.length y.x.sats.length y.p (needI y.x 5) (Z0e y 5) z))) ∧ Below w.heap.size w w' := by
 have HX := hid (RBox.make w V y 5 0 (z : Int)); have HI := hid hi; have HT := hid ht; have HO := hid ho; have hns := ho.may.ns; have hnc := ho.may.nc; have hnz := ho.nz; have HZ := hid hz; have HCU := hid hcu; have HSM := hid hi.mays.2.1; clear hz hcu; obtain ⟨W0,hW0⟩ : ∃ W9,(w.alloc (.cells (viewC V y) 65)).alloc (.cells #[.int .i64 5,.int .i64 0,.int .u64 (z : Int)] 44) = W9 := ⟨_,rfl⟩; rw [hW0] at HX; have HW0 := hid hW0; obtain ⟨d0,d1,d2⟩ := HX.out.cells; obtain ⟨c0,c1,c2,c3,c4,c5,c6,c7,c8,c9,c10⟩ := Z0c HX.out.bx.blk; clear hi ht ho hW0 hnz; unfold viewC at HW0; unfold viewC; go_enter Tryz.func29,Tryz.ntmps29
 go_upto_region 1 with fail
 rw [HW0.out]; clear HW0; go_wp2_with (first | (go_at_call 44; refine (Z46 V y z _ (Z09 HT.out HX.out.bx.below) HZ.out).mono ?_; rw [HCU.out]; rintro e w5 ⟨rfl,hb5⟩; have HX5 := hid (HX.out.later hb5); clear hb5 c0 c1 c2 c3 c4 c5 c6 c7 c8 c9 c10 d0 d1 d2; obtain ⟨d0,d1,d2⟩ := HX5.out.cells; obtain ⟨c0,c1,c2,c3,c4,c5,c6,c7,c8,c9,c10⟩ := Z0c HX5.out.bx.blk) | (go_at_call 45; refine (Z9l V y 5 z _ (HX5.out.bx.view HI.out) (Z09 HT.out HX5.out.bx.below) HO.out HZ.out HCU.out).mono ?_; rintro e w6 ⟨t,rfl,hst,hb6⟩; rw [Z9m HO.out HSM.out 5 HCU.out hst]; have HX6 := hid (HX5.out.later hb6); clear hb6 hst))
 go_ret
 exact ⟨by simp,HX6.out.bx.below⟩
theorem Zbi (V : VA) (y : Vw) (z : Nat) (hz : z < 18446744073709551616) (hcu : custB y.x.cus.length z = true) (w : World) (hi : IsView w.heap.size w V y) (ht : TabD w) (ho : y.Ok) :
  Calls Tryz.prog 29 #[.agg (viewC V y),.agg #[.int .i64 6,.int .i64 0,.int .u64 (z : Int)]] w fun e w' => e = .returned (.bool (decide (0 < Z0r y.x.cus.length y.x.sats.length y.p (needI y.x 6) (Z0e y 6) z))) ∧ Below w.heap.size w w' := by
 have HX := hid (RBox.make w V y 6 0 (z : Int)); have HI := hid hi; have HT := hid ht; have HO := hid ho; have hns := ho.may.ns; have hnc := ho.may.nc; have hnz := ho.nz; have HZ := hid hz; have HCU := hid hcu; have HSM := hid hi.mays.2.1; clear hz hcu; obtain ⟨W0,hW0⟩ : ∃ W9,(w.alloc (.cells (viewC V y) 65)).alloc (.cells #[.int .i64 6,.int .i64 0,.int .u64 (z : Int)] 44) = W9 := ⟨_,rfl⟩; rw [hW0] at HX; have HW0 := hid hW0; obtain ⟨d0,d1,d2⟩ := HX.out.cells; obtain ⟨c0,c1,c2,c3,c4,c5,c6,c7,c8,c9,c10⟩ := Z0c HX.out.bx.blk; clear hi ht ho hW0 hnz; unfold viewC at HW0; unfold viewC; go_enter Tryz.func29,Tryz.ntmps29
 go_upto_region 1 with fail
 rw [HW0.out]; clear HW0; go_wp2_with (first | (go_at_call 44; refine (Z46 V y z _ (Z09 HT.out HX.out.bx.below) HZ.out).mono ?_; rw [HCU.out]; rintro e w5 ⟨rfl,hb5⟩; have HX5 := hid (HX.out.later hb5); clear hb5 c0 c1 c2 c3 c4 c5 c6 c7 c8 c9 c10 d0 d1 d2; obtain ⟨d0,d1,d2⟩ := HX5.out.cells; obtain ⟨c0,c1,c2,c3,c4,c5,c6,c7,c8,c9,c10⟩ := Z0c HX5.out.bx.blk) | (go_at_call 45; refine (Z9l V y 6 z _ (HX5.out.bx.view HI.out) (Z09 HT.out HX5.out.bx.below) HO.out HZ.out HCU.out).mono ?_; rintro e w6 ⟨t,rfl,hst,hb6⟩; rw [Z9m HO.out HSM.out 6 HCU.out hst]; have HX6 := hid (HX5.out.later hb6); clear hb6 hst))
 go_ret
 exact ⟨by simp,HX6.out.bx.below⟩
end Go.Proofs.YtfkommjlmolniaaGreatDoor
end
