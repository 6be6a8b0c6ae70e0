/- Joined: BCnt. -/
import Derived.Test.YtfkommjlmolniaaGreatDoorHd23
import Derived.Test.YtfkommjlmolniaaGreatDoorSortI
import Derived.Sort.OwnSortedInts
set_option linter.unusedVariables false
section

namespace Go.Proofs.YtfkommjlmolniaaGreatDoor
open Go.Lib (hid)
open Go.RowKit
variable {w wr w2 : World} {V : VA} {y : Vw} {B g c s z t k C n : Nat} {f : Nat → Int} {l : List Nat} {ls : List Int} {v : Value}
theorem Zeh : (Tryz.prog.info? 2).map (fun i => (i.zero,i.size,i.bytes)) = some (some (.int .i64 0),1,8) := by kernel_rfl
def srt (ls : List Int) : List Int := ls.mergeSort fun x y => decide (x ≤ y)
theorem Z5b (ls : List Int) : (srt ls).Perm ls := List.mergeSort_perm _ _
theorem Z6u (ls : List Int) : (srt ls).length = ls.length := (Z5b ls).length_eq
theorem Zcp (ls : List Int) : ∀ i j,i ≤ j → j < (srt ls).length → (srt ls).getD i 0 ≤ (srt ls).getD j 0 := fun i j hij hj => by
 have hp : (srt ls).Pairwise (fun x y => decide (x ≤ y) = true) := List.pairwise_mergeSort (le := fun x y => decide (x ≤ y)) (fun a b c h1 h2 => by simp at *; omega) (fun a b => by simp; omega) ls
 rw [List.getD,List.getElem?_eq_getElem (show i < (srt ls).length by omega),List.getD,List.getElem?_eq_getElem hj,Option.getD_some,Option.getD_some]
 by_cases e : i = j
 ·subst e; exact Int.le_refl _
 ·simpa using List.pairwise_iff_getElem.1 hp i j (by omega) hj (by omega)
theorem Zjn (ls : List Int) (v : Value) (B : Nat) (w : World) (h : w.ownsRow B 2 1 v ls.length (numsV ls)) (hl : ls.length ≤ 1000000) :
  Calls Tryz.prog 52 #[v] w fun e w' => e = .returned (.tuple #[]) ∧ w'.ownsRow B 2 1 v ls.length (numsV (srt ls)) ∧ w.grownBy w' v.ownBlock := by
 rcases h.2 with ⟨rfl,h0⟩ | ⟨g,cap,cur,rfl,hb,hg,h1,h2,h3,h4⟩
 ·have e : ls = [] := List.eq_nil_of_length_eq_zero h0
  subst e; refine (AnyG.slices_Sort_int_none Tryz.sortIntLaid none 0 w).mono ?_; rintro e w' ⟨rfl,rfl⟩; refine ⟨rfl,by rw [show srt [] = [] by simp [srt]]; exact h,rfl,rfl,rfl,Nat.le_refl _,fun _ _ _ => rfl⟩
 ·have hH := holds_of_blockI (ss := ls) hg (by have h5 := h4; unfold numsV at h5; rwa [Nat.mul_one] at h5)
  refine (AnyG.slices_Sort_int Tryz.sortIntLaid g 0 cap ls w hH (Array.getElem?_eq_some_iff.1 hg).1 (by omega)).mono ?_
  rintro e w' ⟨rfl,n,os,rfl⟩; have hl2 := Z6u ls; have h5 := ownsRow_sortedI (w := w) (n := n) (os := os) (ss := ls) (ts := srt ls) hl2 hb hg h1 h2 h3; exact ⟨rfl,h5,grownBy_sortedI (w := w) (g := g) (n := n) (os := os) (srt ls).toArray⟩
def ldsTo (x : Ins) (z k : Nat) : List Int := ((allN z).take k).map (ldI x)
theorem Zei {x : Ins} (h : (allN z)[k]? = some c) : ldsTo x z (k + 1) = ldsTo x z k ++ [ldI x c] := by
 unfold ldsTo; rw [List.take_add_one,h,List.map_append]; rfl
theorem Z94 {x : Ins} (h : k ≤ (allN z).length) : (ldsTo x z k).length = k := by unfold ldsTo; rw [List.length_map,List.length_take]; omega
theorem Zej (hz : ∀ c,C ≤ c → z.testBit c = false) (hC : C ≤ 64) : allN z = (List.range C).filter z.testBit := by
 unfold allN; obtain ⟨d,hd⟩ : ∃ d,64 = C + d := ⟨64 - C,by omega⟩
 rw [hd,List.range_add,List.filter_append]; have : (List.map (fun x => C + x) (List.range d)).filter z.testBit = [] := by
  rw [List.filter_eq_nil_iff]; intro i hi; rw [List.mem_map] at hi; obtain ⟨j,_,rfl⟩ := hi; rw [hz _ (by omega)]; simp
 rw [this,List.append_nil]
theorem Z6v {x : Ins} (h : May x) (c : Nat) : 0 ≤ ldI x c := by
 rcases Nat.lt_or_ge c x.cus.length with h1 | h1
 ·have := h.loads c h1; omega
 ·unfold ldI; rw [List.getD,List.getElem?_eq_none h1]; decide
theorem Zm5 : ∀ {l : List Int},(∀ c ∈ l,0 ≤ c ∧ c ≤ 1000000000) → 0 ≤ l.sum ∧ l.sum ≤ (l.length : Int) * 1000000000
 | [],_ => by simp
 | a :: l,h => by
  have ih := Zm5 (l := l) (fun c hc => h c (List.mem_cons_of_mem _ hc)); have h1 := h a List.mem_cons_self; rw [List.sum_cons,List.length_cons]; omega
theorem Zjo {l : List Int} {x : Int} (h : l[k]? = some x) : (l.take (k + 1)).sum = (l.take k).sum + x := by
 rw [List.take_add_one,h,List.sum_append]; simp
def CntP (y : Vw) (s : Nat) (w : World) (e : Ending) (w' : World) : Prop := ∃ n : Nat,e = .returned (.int .i64 (n : Int)) ∧ CountOf y.x.cus.length (y.p s) (ldI y.x) (roomI y.x s) (n : Int) ∧ n ≤ 64 ∧ Below w.heap.size w w'
set_option maxHeartbeats 4000000 in
theorem Zgf (V : VA) (y : Vw) (s : Nat) (w : World) (hi : IsView w.heap.size w V y) (ht : TabD w) (hm : May y.x) (hnz : y.zs.length = y.x.sats.length) (hbits : ∀ z,z ∈ y.zs → ∀ c,y.x.cus.length ≤ c → z.testBit c = false) (hs : s < y.x.sats.length) :
  Calls Tryz.prog 33 #[.agg (viewC V y),.int .i64 (s : Int)] w (CntP y s w) := by
 obtain ⟨i0,hi0,hz0,hz1,hz2⟩ := info_parts Zeh; have HX := hid (VBox.make (Below.refl _ w) V y); have HI := hid hi; have HT := hid ht; have HM := hid hm; have hns := hm.ns; have hnc := hm.nc; have hsz : s < y.zs.length := by omega
 obtain ⟨bz,oz,z,hma,hz,hzl,q0⟩ := (HX.out.view hi).mays.at_ hsz; have hzb := hbits z (List.mem_of_getElem? hz); have HP : Hid (∀ c,y.p s c = z.testBit c) := hid (fun c => by unfold Vw.p; rw [List.getD,hz]; rfl)
 have HAN := hid (Zej hzb (by omega : y.x.cus.length ≤ 64))
 have HZC : Hid (∀ c ∈ allN z,c < y.x.cus.length) := hid (fun c hc => by
  rcases Nat.lt_or_ge c y.x.cus.length with h | h
  ·exact h
  ·have := ((Z2l z c).1 hc).2; rw [hzb c h] at this; cases this)
 have HZL := hid hzl; have HSS := hid hs; have hs1 : (0 : Int) ≤ (s : Int) := by omega
 have hs2 : (s : Int) < (y.zs.length : Int) := by omega
 have c9 := Zmp HX.out.blk hma; have hlen := Z2k z; have HNZ := hid hnz; clear hi ht hm hz hzb hbits hma hzl hnz; unfold viewC at *; go_enter Tryz.func33,Tryz.ntmps33
 go_wp2_with fail
 obtain ⟨W0,hW0⟩ : ∃ W0,w.alloc (.cells (viewC V y) 65) = W0 := ⟨_,rfl⟩; unfold viewC at hW0; rw [hW0] at HX ⊢; clear hW0 c9 q0; refine (Z5e z HZL.out _ (Z09 HT.out HX.out.below)).mono ?_; rintro e w1 ⟨a,cp,rfl,hnums,hb1⟩; have HX1 := hid (HX.out.later hb1); have HN1 := hid hnums; obtain ⟨n,hn1⟩ : ∃ n,(allN z).length = n := ⟨_,rfl⟩; rw [hn1] at HN1 hlen ⊢; have HNL := hid hn1; clear hb1 hnums HX hn1; have HR0 : Hid (w1.ownsRow w1.heap.size 2 1 (.slice none 0 0) (ldsTo y.x z 0).length (numsV (ldsTo y.x z 0))) := hid (World.ownsRow_nil _ _ _ 1); go_wp2_with fail
 go_loopw [5,18] (fun lv iv wr => ∃ i : Nat,iv = .int .i64 (i : Int) ∧ i ≤ n ∧ Hid (wr.ownsRow w1.heap.size 2 1 lv (ldsTo y.x z i).length (numsV (ldsTo y.x z i))) ∧ Hid (Below w1.heap.size w1 wr)) (fun _ iv _ => n - (intOf iv).toNat)
 case atStart => exact ⟨0,rfl,Nat.zero_le _,HR0,hid (Below.refl _ _)⟩
 case round =>
  obtain ⟨i,rfl,hi,HR,HB⟩ := hrel; clear HR0; have HXR := hid (HX1.out.later HB.out); have HNR := hid (HN1.out.later HB.out); have hlen2 : (ldsTo y.x z i).length = i := Z94 (by rw [HNL.out]; exact hi)
  rw [hlen2] at HR; obtain ⟨va,vc,rfl⟩ := Z04 HR.out; by_cases hlt : i < n
  ·obtain ⟨b,off,u,hma,hu,q0⟩ := HNR.out.at_ hlt
   obtain ⟨c,hc,rfl,hc64,hcb⟩ := Z87 hu; have hcC := HZC.out c (List.mem_of_getElem? hc); obtain ⟨b2,o2,lp,hca,hb2,hlp,p0,p1,p2,p3⟩ := (HXR.out.view HI.out).ins.cus.at_ hcC; have hldv := Zgx hlp; have HNX := hid (show ldsTo y.x z (i + 1) = ldsTo y.x z i ++ [lp.1] by rw [Zei hc,hldv])
   have HNX2 := hid (show (ldsTo y.x z (i + 1)).length = i + 1 from Z94 (by rw [HNL.out]; omega))
   obtain ⟨c0,c1,c2,c3,c4,c5,-,c7,c8,c9,c10⟩ := Z0c HXR.out.blk; have c6 := Z1l HXR.out.blk hca; have HMA := hid hma; have HSZ := hid HB.out.size; rw [hma]; clear hu hc hma hcb hca hlp hldv hlen2; have hc1 : (0 : Int) ≤ (c : Int) := by omega
   have hc2 : (c : Int) < (y.x.cus.length : Int) := by omega
   go_wp2_with (at_builtin; refine Z16 rfl (.tmp 22) (.tmp 30) 56 rfl w1.heap.size 2 i0 _ 1 8 Tryz.underlying56 hi0 hz0 hz1 hz2 (by decide) (.slice va i vc) i (numsV (ldsTo y.x z i)) rfl (HR.out.alloc _) ⟨wr.heap.size,0,none⟩ 1 [.int .i64 lp.1] rfl rfl (Z1b _ _ _ _ rfl) (Z2y _) (by unfold maxLen; omega) (by omega) (by have := HSZ.out; simp; omega) ?_; intro g' cap' w5 hown hgrow hfr; have HRN : Hid (w5.ownsRow w1.heap.size 2 1 (.slice (some ⟨g',0,none⟩) (i + 1) cap') (ldsTo y.x z (i + 1)).length (numsV (ldsTo y.x z (i + 1)))) := hid (by rw [HNX2.out,HNX.out,Z2r]; exact hown); have HBN : Hid (Below w1.heap.size w1 w5) := hid ((HB.out.alloc HB.out.size _).grown hgrow (by have := HSZ.out; simp; omega) (fun k hk => (World.ownsRow.lt HR.out k hk).1)); clear hown hgrow hfr)
   go_roundw
   case rel => exact ⟨i + 1,by go_num,by omega,HRN,HBN⟩
   case measure => simp [intOf]; omega
  ·obtain rfl : i = n := by omega
   have hall : ldsTo y.x z i = (allN z).map (ldI y.x) := by unfold ldsTo; rw [List.take_of_length_le (by rw [HNL.out]; exact Nat.le_refl _)]
   have HLS := hid hall; have HLC : Hid (∀ v ∈ ldsTo y.x z i,0 ≤ v ∧ v ≤ 1000000000) := hid (fun v hv => by
    rw [HLS.out,List.mem_map] at hv; obtain ⟨c,hc,rfl⟩ := hv; have := HM.out.loads c (HZC.out c hc); omega)
   obtain ⟨ls,hls⟩ : ∃ ls,ldsTo y.x z i = ls := ⟨_,rfl⟩; rw [hls] at HR HLS HLC hlen2; have hil : i = ls.length := hlen2.symm; clear hall hls hlen2; have HR2 : Hid (wr.ownsRow w1.heap.size 2 1 (.slice va i vc) ls.length (numsV ls)) := by rw [← hil]; exact HR
   have HIL := hid hil; clear HR hil HNR; go_wp2_with fail
   refine (Zjn ls (.slice va i vc) w1.heap.size _ HR2.out (by have := HIL.out; omega)).mono ?_
   rintro e w3 ⟨rfl,hrow,hgrow⟩; have HB3 : Hid (Below w1.heap.size w1 w3) := hid (HB.out.grown hgrow HB.out.size (fun k hk => (World.ownsRow.lt HR2.out k hk).1)); have HX3 := hid (HX1.out.later HB3.out); obtain ⟨b5,o5,l5,hsa,hb5,hl5,r0,r1⟩ := (HX3.out.view HI.out).ins.sats.at_ HSS.out; have HRM := hid (Zcw hl5); have hrm := HM.out.rooms s HSS.out; rw [HRM.out] at hrm; obtain ⟨c0,c1,c2,c3,c4,-,c6,c7,c8,c9,c10⟩ := Z0c HX3.out.blk; have c5 := Zgw HX3.out.blk hsa; have hs3 : (s : Int) < (y.x.sats.length : Int) := by have := HSS.out; omega
   obtain ⟨ts,hts⟩ : ∃ ts,srt ls = ts := ⟨_,rfl⟩; rw [hts] at hrow; have HTS := hid hts; have HTL := hid (show ts.length = i by rw [← hts,Z6u]; exact HIL.out.symm)
   have hrow2 : w3.ownsRow w1.heap.size 2 1 (.slice va i vc) ts.length (numsV ts) := by rw [HTL.out]; have h := hrow; rw [← HIL.out] at h; exact h
   obtain ⟨a6,cp6,hv6,hn6⟩ := Z97 hrow2; injection hv6 with e1 e2 e3
   subst e1 e3; rw [HTL.out] at hn6; have HN6 := hid hn6; have HTC : Hid (∀ v ∈ ts,0 ≤ v ∧ v ≤ 1000000000) := hid (fun v hv => HLC.out v (by rw [← hts] at hv; exact (Z5b ls).mem_iff.1 hv))
   have HR1 := hid hrm.1; obtain ⟨rm,hrmv⟩ : ∃ rm,l5.1 = rm := ⟨_,rfl⟩; rw [hrmv] at HRM hrm r0 HR1; have hr1 : 0 ≤ rm := hrm.1; have hr2 : rm ≤ 1000000000 := hrm.2; clear hrow hrow2 hgrow hl5 hsa hts hn6 hrmv hrm e2 HR2; have HBL : Hid (Below w.heap.size w w3) := hid HX3.out.below; go_wp2_with fail
   clear c0 c1 c2 c3 c4 c5 c6 c7 c8 c9 c10 r0 r1; go_loopw [8,44] (fun rv iv wx => ∃ j : Nat,iv = .int .i64 (j : Int) ∧ rv = .int .i64 (rm - (ts.take j).sum) ∧ j ≤ i ∧ Hid ((ts.take j).sum ≤ rm) ∧ Hid (wx = w3)) (fun _ iv _ => i - (intOf iv).toNat)
   case atStart => exact ⟨0,rfl,by simp,Nat.zero_le _,hid (by simpa using hr1),hid rfl⟩
   case round =>
    obtain ⟨j,rfl,rfl,hj,HF,hwx⟩ := hrel; obtain rfl := hwx.out; by_cases hlt2 : j < i
    ·obtain ⟨b7,o7,u,ha7,hu,q7⟩ := HN6.out.at_ hlt2
     have HU := hid hu; have hub := HTC.out u (List.mem_of_getElem? hu); have hu1 : 0 ≤ u := hub.1; have hu2 : u ≤ 1000000000 := hub.2; have HSN := hid (Zjo hu); have hsb := (Zm5 (l := ts.take j) (fun v hv => HTC.out v (List.mem_of_mem_take hv))).1; have HA7 := hid ha7; have hfj := HF.out; obtain ⟨S,hS⟩ : ∃ S,(ts.take j).sum = S := ⟨_,rfl⟩; rw [hS] at HSN HF hsb hfj ⊢; have HS := hid hS; rw [ha7]; clear hu hub ha7 hS; by_cases hov : rm - S < u
     ·have hd : decide (rm - S < u) = true := decide_eq_true hov
      go_wp2_with fail
      go_ret
      refine ⟨j,rfl,?_,by omega,HBL.out⟩
      have e1 : y.p s = z.testBit := funext HP.out; rw [e1,HRM.out]; refine Z50 (ls := ts) ?_ (by rw [← HTS.out]; exact Zcp ls) (Z6v HM.out) (by rw [HTL.out]; omega) (by rw [HS.out]; exact hfj) (.inr ?_)
      ·rw [← HTS.out,← HAN.out,← HLS.out]; exact Z5b ls
      ·rw [HSN.out]; omega
     ·have hd : decide (rm - S < u) = false := decide_eq_false hov
      have hov2 : ¬ (rm - S < u) := hov; go_wp2_with fail
      go_roundw
      case rel => exact ⟨j + 1,by go_num,by rw [HSN.out]; exact congrArg (Value.int .i64) (by omega),by omega,hid (by rw [HSN.out]; omega),hid trivial⟩
      case measure => simp [intOf]; omega
    ·obtain rfl : j = i := by omega
     go_wp2_with fail
     go_ret
     refine ⟨j,rfl,?_,by omega,HBL.out⟩
     have e1 : y.p s = z.testBit := funext HP.out; rw [e1,HRM.out]; refine Z50 (ls := ts) ?_ (by rw [← HTS.out]; exact Zcp ls) (Z6v HM.out) (by rw [HTL.out]; omega) HF.out (.inl HTL.out.symm)
     rw [← HTS.out,← HAN.out,← HLS.out]; exact Z5b ls
end Go.Proofs.YtfkommjlmolniaaGreatDoor
end
