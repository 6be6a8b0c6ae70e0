/- Joined: BAwake. -/
import Derived.Test.YtfkommjlmolniaaGreatDoorHd21
import Derived.Maps.RangeWalk
import Derived.Test.YtfkommjlmolniaaGreatDoorHd6
set_option linter.unusedVariables false
section

namespace Go.Proofs.YtfkommjlmolniaaGreatDoor
set_option maxHeartbeats 16000000
set_option maxRecDepth 100000
open Go.Lib (hid)
open Go.RowKit
theorem Z5n (H : BlockSpec) (R : ReachSpec) (w : World) (ht : TabD w) : Calls Tryz.prog 7 #[] w fun e w' => e = .returned (.bool true) ∧ Below w.heap.size w w' := by
 have HTB := hid ht; have HH := hid H; have HRS := hid R; have HON := hid (Zby w); have hmkR : ∀ W : World,(Instr.makeSlice 32 (.int .i64 4) (.int .i64 4)).run Tryz.prog W = .ok (.slice (some ⟨W.heap.size,0,none⟩) 4 4) (W.alloc (.cells (madeCells #[.slice none 0 0] 4) 56)) := fun W =>
  run_make_row' 32 56 (.slice none 0 0) 24 Tryz.underlying32 Zdy rfl .i64 .i64 4 (by omega) (by omega) W
 have hmkL : ∀ W : World,(Instr.makeSlice 56 (.int .i64 4) (.int .i64 4)).run Tryz.prog W = .ok (.slice (some ⟨W.heap.size,0,none⟩) 4 4) (W.alloc (.cells (madeCells #[.int .i64 0] 4) 2)) := fun W => Z8v 4 (by omega) W
 clear ht H R; go_enter Tryz.func7,Tryz.ntmps7
 go_wp2_with fail
 refine HON.out.mono ?_; rintro e w2 ⟨⟨A2,rfl,C,D,VK,VT,hown⟩,hb⟩; have hF : Fresh (w2.alloc (.cells (insC A2 (makeI smallZ)) 34)) w2.heap.size (w.heap.size + 1 + 3) A2 (makeI smallZ) 3 C D VK VT (sqE smallZ.cost (Z08 smallZ)) (sqE smallZ.time (Z08 smallZ)) := ⟨heap_alloc_new w2 _,hown.later (Z0q _ _),by decide,by decide,by decide⟩
 have hB := (hb.alloc hb.size (.cells (insC A2 (makeI smallZ)) 34)); have HGE := hid hb.size; obtain ⟨X,hX⟩ : ∃ X,makeI smallZ = X := ⟨_,rfl⟩; obtain ⟨LT,hLT⟩ : ∃ L,sqE smallZ.time (Z08 smallZ) = L := ⟨_,rfl⟩; obtain ⟨LK,hLK⟩ : ∃ L,sqE smallZ.cost (Z08 smallZ) = L := ⟨_,rfl⟩; have HSA := hid (show X.sats = [((60 : Int),(2 : Int))] by rw [← hX]; rfl)
 have HTM := hid (show X.tm = 1 by rw [← hX]; rfl)
 rw [hX,hLT,hLK] at hF; rw [hX] at hB ⊢; clear hX hLT hLK hown hb HON; obtain ⟨gx,hgx⟩ : ∃ g,g = w2.heap.size := ⟨_,rfl⟩; rw [← hgx] at hF HGE; have HF := hid hF; have HB := hid hB; clear hF hB; unfold insC at *; go_upto_region 2 with fail
 obtain ⟨w3,hw3⟩ : ∃ z,z = w2.alloc (.cells #[.int .i64 X.en,.int .i64 X.tm,.int .i64 X.tr,.int .i64 X.bm,.int .i64 X.br,.slice A2.sa X.sats.length A2.sc,.slice A2.ca X.cus.length A2.cc,.slice A2.ka X.cost.length A2.kc,.slice A2.ta X.time.length A2.tc] 34) := ⟨_,rfl⟩; rw [← hw3] at HF HB ⊢; rw [← hgx]; clear hw3 hgx; have hsz : X.sats[0]? = some ((60 : Int),(2 : Int)) := by rw [HSA.out]; rfl
 have hsl : 0 < X.sats.length := by rw [HSA.out]; decide
 have F2 := (HF.out.en_ 1000).br_ 10; obtain ⟨gs,hsa,c0,fz,F3⟩ := F2.sat_ (k := 0) hsz 6; rw [Nat.zero_mul] at c0 fz F3; have F5 := (F3.tr2_ 60).bm_ 2; have q0 := HF.out.frozen 0; have q4 := (HF.out.en_ 1000).frozen 4; have q2 := F3.frozen 2; have q3 := (F3.tr2_ 60).frozen 3; obtain ⟨k0,k1,k2,k3,k4,k5,k6,k7,k8⟩ := HF.out.fin.cells; rw [hsa] at k5; obtain ⟨cur,hcur⟩ : ∃ cur,w3.heap[gs]? = some (.cells cur 51 (0,0)) := by
  have hs := HF.out.own.sats; rw [hsa] at hs; exact Z24 hs (g := gs) rfl
 have hne1 : gx ≠ gs := Z14 HF.out.box hcur (by decide)
 have hne2 : gs ≠ gx := Ne.symm hne1; have HF5 := hid F5; have HB5 := hid (((((HB.out.setCell (p := ⟨gx,0,none⟩) HGE.out (.int .i64 1000)).setCell (p := ⟨gx,4,none⟩) HGE.out (.int .i64 10)).setCell (p := ⟨gs,0,none⟩) (by
  have hs := HF.out.own.sats; rw [hsa] at hs; have := (World.ownsRow.lt hs gs rfl).1; show w.heap.size ≤ gs
  omega) (.int .i64 6)).setCell (p := ⟨gx,2,none⟩) HGE.out (.int .i64 60)).setCell (p := ⟨gx,3,none⟩) HGE.out (.int .i64 2))
 have HSG := hid hsa; clear F2 F3 F5 hcur hsz; go_upto_region 5 with fail
 obtain ⟨W4,hW4⟩ : ∃ W4,((((w3.setCell ⟨gx,0,none⟩ (.int .i64 1000)).setCell ⟨gx,4,none⟩ (.int .i64 10)).setCell ⟨gs,0,none⟩ (.int .i64 6)).setCell ⟨gx,2,none⟩ (.int .i64 60)).setCell ⟨gx,3,none⟩ (.int .i64 2) = W4 := ⟨_,rfl⟩; rw [hW4] at HF5 HB5 ⊢; clear hW4 hsl c0 fz q0 q2 q3 q4 k0 k1 k2 k3 k4 k5 k6 k7 k8 hsa hne1 HF HB; have hbx : W4.heap[gx]? = some (.cells #[.int .i64 1000,.int .i64 1,.int .i64 60,.int .i64 2,.int .i64 10,.slice (some ⟨gs,0,none⟩) 1 A2.sc,.slice A2.ca X.cus.length A2.cc,.slice A2.ka X.cost.length A2.kc,.slice A2.ta X.time.length A2.tc] 34 (0,0)) := by
  have h := HF5.out.box; unfold insC at h; simpa [HSG.out,HSA.out,HTM.out] using h
 obtain ⟨os,hos,hpr,hot⟩ : ∃ os,W4.heap[gs]? = some os ∧ PairRow W4 gs 0 [(6,2)] ∧ ∃ cs,os = .cells cs 51 (0,0) := by
  have hs := HF5.out.own.is_.sats; have ho := HF5.out.own.sats; rw [HSG.out] at ho; obtain ⟨cur,hcur⟩ := Z24 ho (g := gs) rfl; refine ⟨_,hcur,?_,cur,rfl⟩; rcases hs.2 with h0 | ⟨b,off,e,_,h⟩
  ·simp [HSA.out] at h0
  ·rw [HSG.out] at e
   injection e with e
   injection e with e1 e2
   subst e1 e2; simpa [HSA.out] using h
 have HOT := hid hot; clear hot; have HPR : Hid (∀ W : World,W.heap[gs]? = some os → PairRow W gs 0 [(6,2)]) := hid fun W h => hpr.of_block (h.trans hos.symm); have hbx5 := Z37 hbx (Z0q W4 (.cells #[.int .i64 3,.int .i64 0,.int .i64 100,.int .i64 0,.int .i64 4,.int .i64 0,.int .i64 100,.int .i64 0] 53)); have q6 : (W4.alloc (.cells #[.int .i64 3,.int .i64 0,.int .i64 100,.int .i64 0,.int .i64 4,.int .i64 0,.int .i64 100,.int .i64 0] 53)).frozen? ⟨gx,6,none⟩ = false := by simp [World.frozen?,hbx5]
 have k6 : (W4.alloc (.cells #[.int .i64 3,.int .i64 0,.int .i64 100,.int .i64 0,.int .i64 4,.int .i64 0,.int .i64 100,.int .i64 0] 53)).cell? ⟨gx,6,none⟩ = some (.slice A2.ca X.cus.length A2.cc) := by simp [World.cell?,hbx5]
 have hls := (Array.getElem?_eq_some_iff.1 hbx).1; have hb5 := Z0q W4 (.cells #[.int .i64 3,.int .i64 0,.int .i64 100,.int .i64 0,.int .i64 4,.int .i64 0,.int .i64 100,.int .i64 0] 53); have HL5 : Hid (Lk w ((W4.alloc (.cells #[.int .i64 3,.int .i64 0,.int .i64 100,.int .i64 0,.int .i64 4,.int .i64 0,.int .i64 100,.int .i64 0] 53)).setCell ⟨gx,6,none⟩ (.slice (some ⟨W4.heap.size,0,none⟩) 2 2)) gx gs W4.heap.size A2.sc os cuB (.slice (some ⟨W4.heap.size,0,none⟩) 2 2) (.slice A2.ka X.cost.length A2.kc) (.slice A2.ta X.time.length A2.tc)) := Lib.hid
  ⟨(HB5.out.trans (hb5.mono HB5.out.size)).setCell (p := ⟨gx,6,none⟩) HGE.out _,HGE.out,heap_setCell_same _ _ _ _ _ _ hbx5,(heap_setCell_other _ _ _ _ hne2).trans (Z37 hos hb5),(heap_setCell_other _ _ _ _ (show W4.heap.size ≠ gx by omega)).trans (heap_alloc_new _ _),hne2,by omega⟩
 clear hbx5 hb5 hls hbx hos hpr HF5 HB5; go_upto_region 6 with fail
 obtain ⟨W5,hW5⟩ : ∃ W5,(W4.alloc (.cells #[.int .i64 3,.int .i64 0,.int .i64 100,.int .i64 0,.int .i64 4,.int .i64 0,.int .i64 100,.int .i64 0] 53)).setCell ⟨gx,6,none⟩ (.slice (some ⟨W4.heap.size,0,none⟩) 2 2) = W5 := ⟨_,rfl⟩; obtain ⟨gc,hgc⟩ : ∃ g,W4.heap.size = g := ⟨_,rfl⟩; rw [hW5] at HL5 ⊢; rw [hgc] at HL5; clear hW5 hgc q6 k6 hne2; obtain ⟨v7,hv7⟩ : ∃ v,Value.slice A2.ka X.cost.length A2.kc = v := ⟨_,rfl⟩; obtain ⟨v8,hv8⟩ : ∃ v,Value.slice A2.ta X.time.length A2.tc = v := ⟨_,rfl⟩; rw [hv7,hv8] at HL5; clear hv7 hv8 HSG HSA HTM HGE; go_cut [21] from 22 to 24 (fun p wx => ∃ gp gq,p = .slice (some ⟨gp,0,none⟩) 4 4 ∧ Lk w wx gx gs gc A2.sc os cuB (.slice (some ⟨gc,0,none⟩) 2 2) (.slice (some ⟨gp,0,none⟩) 4 4) (.slice (some ⟨gq,0,none⟩) 4 4) ∧ ZR wx gp (fun _ => 0) 0 ∧ ZR wx gq (fun _ => 0) 0 ∧ gp ≠ gq ∧ w.heap.size ≤ gp ∧ w.heap.size ≤ gq)
 case first =>
  have HL0 := hid (HL5.out.later (Below.refl _ W5).drew); obtain ⟨v0,hv0⟩ : ∃ v,World.drew W5 = v := ⟨_,rfl⟩; rw [hv0] at HL0; refine wp_region_held_drew (S := fun _ => True) (by kernel_rfl) True.intro (fun hHeld => ?_)
  rw [hv0]; clear hv0 HL5; refine wpAnyH_ready (rs := [0,1]) (by kernel_rfl) (by simp) ?_
  refine AllReadyH.cons rfl (fun K hK => ?_) (AllReadyH.cons rfl (fun K hK => ?_) AllReadyH.nil)
  ·go_simp
   refine hK.out _ _ ?_ (fun hHeld => ?_)
   ·exact True.intro
   clear hK K; try go_frame
   have hb := Z0q v0 (.cells (madeCells #[.slice none 0 0] 4) 56); have HL1 := hid (HL0.out.later hb); have HP1 := hid (ZR.make v0); have HGP := hid HL0.out.below.size; clear hb; obtain ⟨v1,hvn⟩ : ∃ W9,World.alloc v0 (.cells (madeCells #[.slice none 0 0] 4) 56) = W9 := ⟨_,rfl⟩; rw [hvn] at HL1 HP1 ⊢; clear hvn; obtain ⟨gp,hgn⟩ : ∃ g,v0.heap.size = g := ⟨_,rfl⟩; rw [hgn] at HP1 HGP ⊢; clear hgn; refine stpT 2 hHeld ?_ (y := fun Wz hWz => by clear hWz; go_simp; (try with_reducible rfl))
   try go_frame
   have fz7 := HL1.out.frozen 7; have k7 := (Z1f HL1.out.box).2.2.2.2.2.2.2.1; refine wpAnyH_ready (rs := [1,3]) (by kernel_rfl) (by simp) ?_
   refine AllReadyH.cons rfl (fun K hK => ?_) (AllReadyH.cons rfl (fun K hK => ?_) AllReadyH.nil)
   ·go_simp
    refine hK.out _ _ ?_ (fun hHeld => ?_)
    ·exact True.intro
    clear hK K; try go_frame
    have hb := Z0q v1 (.cells (madeCells #[.slice none 0 0] 4) 56); have HL2 := hid (HL1.out.later hb); have HQ2 := hid (ZR.make v1); have HGQ := hid HL1.out.below.size; have HP2 := hid (HP1.out.later hb); have HNE : Hid (gp ≠ v1.heap.size) := hid (by have := HP1.out.outer.lt; omega)
    clear hb; obtain ⟨v2,hvn⟩ : ∃ W9,World.alloc v1 (.cells (madeCells #[.slice none 0 0] 4) 56) = W9 := ⟨_,rfl⟩; rw [hvn] at HL2 HQ2 HP2 ⊢; clear hvn; obtain ⟨gq,hgn⟩ : ∃ g,v1.heap.size = g := ⟨_,rfl⟩; rw [hgn] at HQ2 HGQ HNE ⊢; clear hgn; have fz7 := HL2.out.frozen 7; have k7 := (Z1f HL2.out.box).2.2.2.2.2.2.2.1; refine stpR 3 (fun K hK => ?_); go_simp; refine hK.out _ _ ?_ (fun hHeld => ?_)
    ·exact True.intro
    clear hK K fz7 k7; try go_frame
    have HL3 := hid (HL2.out.set7 (.slice (some ⟨gp,0,none⟩) 4 4)); have HP3 := hid (HP2.out.other HL2.out.box (Ne.symm (HP2.out.ne_ HL2.out.box (by decide))) (by decide) 7 (.slice (some ⟨gp,0,none⟩) 4 4))
    have HQ3 := hid (HQ2.out.other HL2.out.box (Ne.symm (HQ2.out.ne_ HL2.out.box (by decide))) (by decide) 7 (.slice (some ⟨gp,0,none⟩) 4 4))
    obtain ⟨v3,hvn⟩ : ∃ W9,v2.setCell ⟨gx,7,none⟩ (.slice (some ⟨gp,0,none⟩) 4 4) = W9 := ⟨_,rfl⟩; rw [hvn] at HL3 HP3 HQ3 ⊢; clear hvn; refine stpT 4 hHeld ?_ (y := fun Wz hWz => by clear hWz; go_simp; (try with_reducible rfl))
    try go_frame
    have fz8 := HL3.out.frozen 8; have k8 := (Z1f HL3.out.box).2.2.2.2.2.2.2.2.1; refine stpR 5 (fun K hK => ?_); go_simp; refine hK.out _ _ ?_ (fun hHeld => ?_)
    ·exact True.intro
    clear hK K fz8 k8; try go_frame
    have HL4 := hid (HL3.out.set8 (.slice (some ⟨gq,0,none⟩) 4 4)); have HP4 := hid (HP3.out.other HL3.out.box (Ne.symm (HP3.out.ne_ HL3.out.box (by decide))) (by decide) 8 (.slice (some ⟨gq,0,none⟩) 4 4))
    have HQ4 := hid (HQ3.out.other HL3.out.box (Ne.symm (HQ3.out.ne_ HL3.out.box (by decide))) (by decide) 8 (.slice (some ⟨gq,0,none⟩) 4 4))
    obtain ⟨v4,hvn⟩ : ∃ W9,v3.setCell ⟨gx,8,none⟩ (.slice (some ⟨gq,0,none⟩) 4 4) = W9 := ⟨_,rfl⟩; rw [hvn] at HL4 HP4 HQ4 ⊢; clear hvn; refine wpAnyH_done (by kernel_rfl) ?_ _
    clear hHeld; go_wp2_with fail
    go_meet
    exact ⟨gp,gq,rfl,HL4.out,HP4.out,HQ4.out,HNE.out,HGP.out,HGQ.out⟩
   ·go_simp
    refine hK.out _ _ ?_ (fun hHeld => ?_)
    ·exact True.intro
    clear hK K fz7 k7; try go_frame
    have HL2 := hid (HL1.out.set7 (.slice (some ⟨gp,0,none⟩) 4 4)); have HP2 := hid (HP1.out.other HL1.out.box (Ne.symm (HP1.out.ne_ HL1.out.box (by decide))) (by decide) 7 (.slice (some ⟨gp,0,none⟩) 4 4))
    obtain ⟨v2,hvn⟩ : ∃ W9,v1.setCell ⟨gx,7,none⟩ (.slice (some ⟨gp,0,none⟩) 4 4) = W9 := ⟨_,rfl⟩; rw [hvn] at HL2 HP2 ⊢; clear hvn; refine stpR 1 (fun K hK => ?_); go_simp; refine hK.out _ _ ?_ (fun hHeld => ?_)
    ·exact True.intro
    clear hK K; try go_frame
    have hb := Z0q v2 (.cells (madeCells #[.slice none 0 0] 4) 56); have HL3 := hid (HL2.out.later hb); have HQ3 := hid (ZR.make v2); have HGQ := hid HL2.out.below.size; have HP3 := hid (HP2.out.later hb); have HNE : Hid (gp ≠ v2.heap.size) := hid (by have := HP2.out.outer.lt; omega)
    clear hb; obtain ⟨v3,hvn⟩ : ∃ W9,World.alloc v2 (.cells (madeCells #[.slice none 0 0] 4) 56) = W9 := ⟨_,rfl⟩; rw [hvn] at HL3 HQ3 HP3 ⊢; clear hvn; obtain ⟨gq,hgn⟩ : ∃ g,v2.heap.size = g := ⟨_,rfl⟩; rw [hgn] at HQ3 HGQ HNE ⊢; clear hgn; refine stpT 4 hHeld ?_ (y := fun Wz hWz => by clear hWz; go_simp; (try with_reducible rfl))
    try go_frame
    have fz8 := HL3.out.frozen 8; have k8 := (Z1f HL3.out.box).2.2.2.2.2.2.2.2.1; refine stpR 5 (fun K hK => ?_); go_simp; refine hK.out _ _ ?_ (fun hHeld => ?_)
    ·exact True.intro
    clear hK K fz8 k8; try go_frame
    have HL4 := hid (HL3.out.set8 (.slice (some ⟨gq,0,none⟩) 4 4)); have HP4 := hid (HP3.out.other HL3.out.box (Ne.symm (HP3.out.ne_ HL3.out.box (by decide))) (by decide) 8 (.slice (some ⟨gq,0,none⟩) 4 4))
    have HQ4 := hid (HQ3.out.other HL3.out.box (Ne.symm (HQ3.out.ne_ HL3.out.box (by decide))) (by decide) 8 (.slice (some ⟨gq,0,none⟩) 4 4))
    obtain ⟨v4,hvn⟩ : ∃ W9,v3.setCell ⟨gx,8,none⟩ (.slice (some ⟨gq,0,none⟩) 4 4) = W9 := ⟨_,rfl⟩; rw [hvn] at HL4 HP4 HQ4 ⊢; clear hvn; refine wpAnyH_done (by kernel_rfl) ?_ _
    clear hHeld; go_wp2_with fail
    go_meet
    exact ⟨gp,gq,rfl,HL4.out,HP4.out,HQ4.out,HNE.out,HGP.out,HGQ.out⟩
  ·go_simp
   refine hK.out _ _ ?_ (fun hHeld => ?_)
   ·exact True.intro
   clear hK K; try go_frame
   have hb := Z0q v0 (.cells (madeCells #[.slice none 0 0] 4) 56); have HL1 := hid (HL0.out.later hb); have HQ1 := hid (ZR.make v0); have HGQ := hid HL0.out.below.size; clear hb; obtain ⟨v1,hvn⟩ : ∃ W9,World.alloc v0 (.cells (madeCells #[.slice none 0 0] 4) 56) = W9 := ⟨_,rfl⟩; rw [hvn] at HL1 HQ1 ⊢; clear hvn; obtain ⟨gq,hgn⟩ : ∃ g,v0.heap.size = g := ⟨_,rfl⟩; rw [hgn] at HQ1 HGQ ⊢; clear hgn; refine stpR 0 (fun K hK => ?_); go_simp; refine hK.out _ _ ?_ (fun hHeld => ?_)
   ·exact True.intro
   clear hK K; try go_frame
   have hb := Z0q v1 (.cells (madeCells #[.slice none 0 0] 4) 56); have HL2 := hid (HL1.out.later hb); have HP2 := hid (ZR.make v1); have HGP := hid HL1.out.below.size; have HQ2 := hid (HQ1.out.later hb); have HNE : Hid (v1.heap.size ≠ gq) := hid (by have := HQ1.out.outer.lt; omega)
   clear hb; obtain ⟨v2,hvn⟩ : ∃ W9,World.alloc v1 (.cells (madeCells #[.slice none 0 0] 4) 56) = W9 := ⟨_,rfl⟩; rw [hvn] at HL2 HP2 HQ2 ⊢; clear hvn; obtain ⟨gp,hgn⟩ : ∃ g,v1.heap.size = g := ⟨_,rfl⟩; rw [hgn] at HP2 HGP HNE ⊢; clear hgn; refine stpT 2 hHeld ?_ (y := fun Wz hWz => by clear hWz; go_simp; (try with_reducible rfl))
   try go_frame
   have fz7 := HL2.out.frozen 7; have k7 := (Z1f HL2.out.box).2.2.2.2.2.2.2.1; refine stpR 3 (fun K hK => ?_); go_simp; refine hK.out _ _ ?_ (fun hHeld => ?_)
   ·exact True.intro
   clear hK K fz7 k7; try go_frame
   have HL3 := hid (HL2.out.set7 (.slice (some ⟨gp,0,none⟩) 4 4)); have HP3 := hid (HP2.out.other HL2.out.box (Ne.symm (HP2.out.ne_ HL2.out.box (by decide))) (by decide) 7 (.slice (some ⟨gp,0,none⟩) 4 4))
   have HQ3 := hid (HQ2.out.other HL2.out.box (Ne.symm (HQ2.out.ne_ HL2.out.box (by decide))) (by decide) 7 (.slice (some ⟨gp,0,none⟩) 4 4))
   obtain ⟨v3,hvn⟩ : ∃ W9,v2.setCell ⟨gx,7,none⟩ (.slice (some ⟨gp,0,none⟩) 4 4) = W9 := ⟨_,rfl⟩; rw [hvn] at HL3 HP3 HQ3 ⊢; clear hvn; refine stpT 4 hHeld ?_ (y := fun Wz hWz => by clear hWz; go_simp; (try with_reducible rfl))
   try go_frame
   have fz8 := HL3.out.frozen 8; have k8 := (Z1f HL3.out.box).2.2.2.2.2.2.2.2.1; refine stpR 5 (fun K hK => ?_); go_simp; refine hK.out _ _ ?_ (fun hHeld => ?_)
   ·exact True.intro
   clear hK K fz8 k8; try go_frame
   have HL4 := hid (HL3.out.set8 (.slice (some ⟨gq,0,none⟩) 4 4)); have HP4 := hid (HP3.out.other HL3.out.box (Ne.symm (HP3.out.ne_ HL3.out.box (by decide))) (by decide) 8 (.slice (some ⟨gq,0,none⟩) 4 4))
   have HQ4 := hid (HQ3.out.other HL3.out.box (Ne.symm (HQ3.out.ne_ HL3.out.box (by decide))) (by decide) 8 (.slice (some ⟨gq,0,none⟩) 4 4))
   obtain ⟨v4,hvn⟩ : ∃ W9,v3.setCell ⟨gx,8,none⟩ (.slice (some ⟨gq,0,none⟩) 4 4) = W9 := ⟨_,rfl⟩; rw [hvn] at HL4 HP4 HQ4 ⊢; clear hvn; refine wpAnyH_done (by kernel_rfl) ?_ _
   clear hHeld; go_wp2_with fail
   go_meet
   exact ⟨gp,gq,rfl,HL4.out,HP4.out,HQ4.out,HNE.out,HGP.out,HGQ.out⟩
 case rest =>
  obtain ⟨gp,gq,hp,hL,hP,hQ,hne,hgp,hgq⟩ := hcut; subst hp; have HL := hid hL; have HP : Hid (∃ V,ZR _ gp V 0) := hid ⟨_,hP⟩; have HQ : Hid (∃ V,ZR _ gq V 0) := hid ⟨_,hQ⟩; have HNE := hid hne; have HGP := hid hgp; have HGQ := hid hgq; clear hL hP hQ hne hgp hgq; try clear HL5
  go_wp2_with fail
  go_loopw [25] (fun iv wr => ∃ i : Nat,iv = .int .i64 (i : Int) ∧ i ≤ 4 ∧ Hid (Lk w wr gx gs gc A2.sc os cuB (.slice (some ⟨gc,0,none⟩) 2 2) (.slice (some ⟨gp,0,none⟩) 4 4) (.slice (some ⟨gq,0,none⟩) 4 4)) ∧ Hid (∃ V,ZR wr gp V i) ∧ Hid (∃ V,ZR wr gq V i)) (fun iv _ => 4 - (intOf iv).toNat)
  case atStart => exact ⟨0,rfl,Nat.zero_le _,HL,HP,HQ⟩
  case round =>
   clear HL HP HQ; obtain ⟨i,rfl,hi,HL,HP,HQ⟩ := hrel; by_cases hil : i < 4
   ·obtain ⟨Vp,hP⟩ := HP.out
    obtain ⟨Vq,hQ⟩ := HQ.out; have hd1 : decide ((i : Int) < 4) = true := decide_eq_true (by omega)
    have hi4 : (i : Int) < 4 := by omega
    go_wp2_with fail
    obtain ⟨u0,hu0⟩ : ∃ v,World.drew wr = v := ⟨_,rfl⟩; have HL0 := hid (HL.out.later (Below.refl _ wr).drew); have HP0 := hid (hP.later (Below.refl _ wr).drew); have HQ0 := hid (hQ.later (Below.refl _ wr).drew); refine wp_region_held_drew (S := fun Wz => Wz.heap[gx]? = some (.cells #[.int .i64 1000,.int .i64 1,.int .i64 60,.int .i64 2,.int .i64 10,.slice (some ⟨gs,0,none⟩) 1 A2.sc,(.slice (some ⟨gc,0,none⟩) 2 2),(.slice (some ⟨gp,0,none⟩) 4 4),(.slice (some ⟨gq,0,none⟩) 4 4)] 34 (0,0))) (by kernel_rfl) HL0.out.box (fun hHeld => ?_)
    rw [hu0] at hHeld HL0 HP0 HQ0 ⊢; clear hu0 hP hQ HL HP HQ; refine stpT 0 hHeld ?_ (y := fun Wz hWz => by clear hWz; go_simp; (try with_reducible rfl))
    try go_frame
    refine stpT 1 hHeld ?_ (y := fun Wz hWz => by obtain ⟨k0,k1,k2,k3,k4,k5,k6,k7,k8,_⟩ := Z1f hWz; clear hWz; go_simp; (try with_reducible rfl))
    try go_frame
    refine stpT 2 hHeld ?_ (y := fun Wz hWz => by clear hWz; go_simp; (try with_reducible rfl))
    try go_frame
    refine stpT 3 hHeld ?_ (y := fun Wz hWz => by clear hWz; go_simp; (try with_reducible rfl))
    try go_frame
    refine stpT 4 hHeld ?_ (y := fun Wz hWz => by obtain ⟨k0,k1,k2,k3,k4,k5,k6,k7,k8,_⟩ := Z1f hWz; clear hWz; go_simp; (try with_reducible rfl))
    try go_frame
    refine stpT 5 hHeld ?_ (y := fun Wz hWz => by clear hWz; go_simp; (try with_reducible rfl))
    try go_frame
    refine wpAnyH_ready (rs := [6,7]) (by kernel_rfl) (by simp) ?_
    refine AllReadyH.cons rfl (fun K hK => ?_) (AllReadyH.cons rfl (fun K hK => ?_) AllReadyH.nil)
    ·go_simp
     have hb := Z0q u0 (.cells (madeCells #[.int .i64 0] 4) 2); have HL1 := hid (HL0.out.later hb); have HP1 := hid (HP0.out.later hb); have HQ1 := hid (HQ0.out.later hb); have HA1 := hid (World.rowIs_made u0 (.int .i64 0) 4 2); clear hb; refine hK.out _ _ ?_ (fun hHeld => ?_)
     ·exact HL1.out.box
     clear hK K; try go_frame
     obtain ⟨u1,hvn⟩ : ∃ W9,World.alloc u0 (.cells (madeCells #[.int .i64 0] 4) 2) = W9 := ⟨_,rfl⟩; rw [hvn] at HL1 HP1 HQ1 HA1 hHeld ⊢; clear hvn; obtain ⟨gA,hgn⟩ : ∃ g,u0.heap.size = g := ⟨_,rfl⟩; rw [hgn] at HA1 ⊢; clear hgn; refine stpT 8 hHeld ?_ (y := fun Wz hWz => by clear hWz; go_simp; (try with_reducible rfl))
     try go_frame
     obtain ⟨fz,kc⟩ := HP1.out.free hil; refine wpAnyH_ready (rs := [7,9]) (by kernel_rfl) (by simp) ?_
     refine AllReadyH.cons rfl (fun K hK => ?_) (AllReadyH.cons rfl (fun K hK => ?_) AllReadyH.nil)
     ·go_simp
      have hb := Z0q u1 (.cells (madeCells #[.int .i64 0] 4) 2); have HL2 := hid (HL1.out.later hb); have HP2 := hid (HP1.out.later hb); have HQ2 := hid (HQ1.out.later hb); have HB2 := hid (World.rowIs_made u1 (.int .i64 0) 4 2); have HA2 := hid (Z5q HA1.out hb); clear hb; refine hK.out _ _ ?_ (fun hHeld => ?_)
      ·exact HL2.out.box
      clear hK K; try go_frame
      obtain ⟨u2,hvn⟩ : ∃ W9,World.alloc u1 (.cells (madeCells #[.int .i64 0] 4) 2) = W9 := ⟨_,rfl⟩; rw [hvn] at HL2 HP2 HQ2 HB2 HA2 hHeld ⊢; clear hvn; obtain ⟨gB,hgn⟩ : ∃ g,u1.heap.size = g := ⟨_,rfl⟩; rw [hgn] at HB2 ⊢; clear hgn; obtain ⟨fz,kc⟩ := HP2.out.free hil; refine stpR 9 (fun K hK => ?_); go_simp; have HL3 := hid (HL2.out.rows HOT.out HP2.out HGP.out i (.slice (some ⟨gA,0,none⟩) 4 4)); have HP3 := hid (HP2.out.more HA2.out); obtain ⟨cp,hcp⟩ := HP2.out.blk; have HQ3 := hid (HQ2.out.other hcp (Ne.symm HNE.out) (by decide) i (.slice (some ⟨gA,0,none⟩) 4 4))
      clear hcp; have HB3 := hid (Z6z HB2.out HP2.out i (.slice (some ⟨gA,0,none⟩) 4 4)); refine hK.out _ _ ?_ (fun hHeld => ?_)
      ·exact HL3.out.box
      clear hK K fz kc; try go_frame
      obtain ⟨u3,hvn⟩ : ∃ W9,u2.setCell ⟨gp,i,none⟩ (.slice (some ⟨gA,0,none⟩) 4 4) = W9 := ⟨_,rfl⟩; rw [hvn] at HL3 HP3 HQ3 HB3 hHeld ⊢; clear hvn; refine stpT 10 hHeld ?_ (y := fun Wz hWz => by clear hWz; go_simp; (try with_reducible rfl))
      try go_frame
      obtain ⟨fz,kc⟩ := HQ3.out.free hil; refine stpR 11 (fun K hK => ?_); go_simp; have HL4 := hid (HL3.out.rows HOT.out HQ3.out HGQ.out i (.slice (some ⟨gB,0,none⟩) 4 4)); have HQ4 := hid (HQ3.out.more HB3.out); obtain ⟨cq,hcq⟩ := HQ3.out.blk; have HP4 := hid (HP3.out.other hcq HNE.out (by decide) i (.slice (some ⟨gB,0,none⟩) 4 4))
      clear hcq; refine hK.out _ _ ?_ (fun hHeld => ?_)
      ·exact HL4.out.box
      clear hK K fz kc; try go_frame
      obtain ⟨u4,hvn⟩ : ∃ W9,u3.setCell ⟨gq,i,none⟩ (.slice (some ⟨gB,0,none⟩) 4 4) = W9 := ⟨_,rfl⟩; rw [hvn] at HL4 HP4 HQ4 ⊢; clear hvn; refine wpAnyH_done (by kernel_rfl) ?_ _
      clear hHeld; go_wp2_with fail
      go_roundw
      case rel => exact ⟨i + 1,by go_num,by omega,HL4,hid ⟨_,HP4.out⟩,hid ⟨_,HQ4.out⟩⟩
      case measure => simp [intOf]; omega
     ·go_simp
      have HL2 := hid (HL1.out.rows HOT.out HP1.out HGP.out i (.slice (some ⟨gA,0,none⟩) 4 4)); have HP2 := hid (HP1.out.more HA1.out); obtain ⟨cp,hcp⟩ := HP1.out.blk; have HQ2 := hid (HQ1.out.other hcp (Ne.symm HNE.out) (by decide) i (.slice (some ⟨gA,0,none⟩) 4 4))
      clear hcp; refine hK.out _ _ ?_ (fun hHeld => ?_)
      ·exact HL2.out.box
      clear hK K fz kc; try go_frame
      obtain ⟨u2,hvn⟩ : ∃ W9,u1.setCell ⟨gp,i,none⟩ (.slice (some ⟨gA,0,none⟩) 4 4) = W9 := ⟨_,rfl⟩; rw [hvn] at HL2 HP2 HQ2 hHeld ⊢; clear hvn; refine stpR 7 (fun K hK => ?_); go_simp; have hb := Z0q u2 (.cells (madeCells #[.int .i64 0] 4) 2); have HL3 := hid (HL2.out.later hb); have HP3 := hid (HP2.out.later hb); have HQ3 := hid (HQ2.out.later hb); have HB3 := hid (World.rowIs_made u2 (.int .i64 0) 4 2); clear hb; refine hK.out _ _ ?_ (fun hHeld => ?_)
      ·exact HL3.out.box
      clear hK K; try go_frame
      obtain ⟨u3,hvn⟩ : ∃ W9,World.alloc u2 (.cells (madeCells #[.int .i64 0] 4) 2) = W9 := ⟨_,rfl⟩; rw [hvn] at HL3 HP3 HQ3 HB3 hHeld ⊢; clear hvn; obtain ⟨gB,hgn⟩ : ∃ g,u2.heap.size = g := ⟨_,rfl⟩; rw [hgn] at HB3 ⊢; clear hgn; refine stpT 10 hHeld ?_ (y := fun Wz hWz => by clear hWz; go_simp; (try with_reducible rfl))
      try go_frame
      obtain ⟨fz,kc⟩ := HQ3.out.free hil; refine stpR 11 (fun K hK => ?_); go_simp; have HL4 := hid (HL3.out.rows HOT.out HQ3.out HGQ.out i (.slice (some ⟨gB,0,none⟩) 4 4)); have HQ4 := hid (HQ3.out.more HB3.out); obtain ⟨cq,hcq⟩ := HQ3.out.blk; have HP4 := hid (HP3.out.other hcq HNE.out (by decide) i (.slice (some ⟨gB,0,none⟩) 4 4))
      clear hcq; refine hK.out _ _ ?_ (fun hHeld => ?_)
      ·exact HL4.out.box
      clear hK K fz kc; try go_frame
      obtain ⟨u4,hvn⟩ : ∃ W9,u3.setCell ⟨gq,i,none⟩ (.slice (some ⟨gB,0,none⟩) 4 4) = W9 := ⟨_,rfl⟩; rw [hvn] at HL4 HP4 HQ4 ⊢; clear hvn; refine wpAnyH_done (by kernel_rfl) ?_ _
      clear hHeld; go_wp2_with fail
      go_roundw
      case rel => exact ⟨i + 1,by go_num,by omega,HL4,hid ⟨_,HP4.out⟩,hid ⟨_,HQ4.out⟩⟩
      case measure => simp [intOf]; omega
    ·go_simp
     have hb := Z0q u0 (.cells (madeCells #[.int .i64 0] 4) 2); have HL1 := hid (HL0.out.later hb); have HP1 := hid (HP0.out.later hb); have HQ1 := hid (HQ0.out.later hb); have HB1 := hid (World.rowIs_made u0 (.int .i64 0) 4 2); clear hb; refine hK.out _ _ ?_ (fun hHeld => ?_)
     ·exact HL1.out.box
     clear hK K; try go_frame
     obtain ⟨u1,hvn⟩ : ∃ W9,World.alloc u0 (.cells (madeCells #[.int .i64 0] 4) 2) = W9 := ⟨_,rfl⟩; rw [hvn] at HL1 HP1 HQ1 HB1 hHeld ⊢; clear hvn; obtain ⟨gB,hgn⟩ : ∃ g,u0.heap.size = g := ⟨_,rfl⟩; rw [hgn] at HB1 ⊢; clear hgn; refine stpR 6 (fun K hK => ?_); go_simp; have hb := Z0q u1 (.cells (madeCells #[.int .i64 0] 4) 2); have HL2 := hid (HL1.out.later hb); have HP2 := hid (HP1.out.later hb); have HQ2 := hid (HQ1.out.later hb); have HA2 := hid (World.rowIs_made u1 (.int .i64 0) 4 2); have HB2 := hid (Z5q HB1.out hb); clear hb; refine hK.out _ _ ?_ (fun hHeld => ?_)
     ·exact HL2.out.box
     clear hK K; try go_frame
     obtain ⟨u2,hvn⟩ : ∃ W9,World.alloc u1 (.cells (madeCells #[.int .i64 0] 4) 2) = W9 := ⟨_,rfl⟩; rw [hvn] at HL2 HP2 HQ2 HA2 HB2 hHeld ⊢; clear hvn; obtain ⟨gA,hgn⟩ : ∃ g,u1.heap.size = g := ⟨_,rfl⟩; rw [hgn] at HA2 ⊢; clear hgn; refine stpT 8 hHeld ?_ (y := fun Wz hWz => by clear hWz; go_simp; (try with_reducible rfl))
     try go_frame
     obtain ⟨fz,kc⟩ := HP2.out.free hil; refine stpR 9 (fun K hK => ?_); go_simp; have HL3 := hid (HL2.out.rows HOT.out HP2.out HGP.out i (.slice (some ⟨gA,0,none⟩) 4 4)); have HP3 := hid (HP2.out.more HA2.out); obtain ⟨cp,hcp⟩ := HP2.out.blk; have HQ3 := hid (HQ2.out.other hcp (Ne.symm HNE.out) (by decide) i (.slice (some ⟨gA,0,none⟩) 4 4))
     clear hcp; have HB3 := hid (Z6z HB2.out HP2.out i (.slice (some ⟨gA,0,none⟩) 4 4)); refine hK.out _ _ ?_ (fun hHeld => ?_)
     ·exact HL3.out.box
     clear hK K fz kc; try go_frame
     obtain ⟨u3,hvn⟩ : ∃ W9,u2.setCell ⟨gp,i,none⟩ (.slice (some ⟨gA,0,none⟩) 4 4) = W9 := ⟨_,rfl⟩; rw [hvn] at HL3 HP3 HQ3 HB3 hHeld ⊢; clear hvn; refine stpT 10 hHeld ?_ (y := fun Wz hWz => by clear hWz; go_simp; (try with_reducible rfl))
     try go_frame
     obtain ⟨fz,kc⟩ := HQ3.out.free hil; refine stpR 11 (fun K hK => ?_); go_simp; have HL4 := hid (HL3.out.rows HOT.out HQ3.out HGQ.out i (.slice (some ⟨gB,0,none⟩) 4 4)); have HQ4 := hid (HQ3.out.more HB3.out); obtain ⟨cq,hcq⟩ := HQ3.out.blk; have HP4 := hid (HP3.out.other hcq HNE.out (by decide) i (.slice (some ⟨gB,0,none⟩) 4 4))
     clear hcq; refine hK.out _ _ ?_ (fun hHeld => ?_)
     ·exact HL4.out.box
     clear hK K fz kc; try go_frame
     obtain ⟨u4,hvn⟩ : ∃ W9,u3.setCell ⟨gq,i,none⟩ (.slice (some ⟨gB,0,none⟩) 4 4) = W9 := ⟨_,rfl⟩; rw [hvn] at HL4 HP4 HQ4 ⊢; clear hvn; refine wpAnyH_done (by kernel_rfl) ?_ _
     clear hHeld; go_wp2_with fail
     go_roundw
     case rel => exact ⟨i + 1,by go_num,by omega,HL4,hid ⟨_,HP4.out⟩,hid ⟨_,HQ4.out⟩⟩
     case measure => simp [intOf]; omega
   ·obtain rfl : i = 4 := by omega
    obtain ⟨Vp,hP⟩ := HP.out; obtain ⟨Vq,hQ⟩ := HQ.out; have HIS := hid (HL.out.ins HPR.out hP hQ); clear hP hQ HP HQ; have hd1 : decide ((4 : Int) < 4) = false := by decide
    obtain ⟨k0,k1,k2,k3,k4,k5,k6,k7,k8,_⟩ := Z1f HL.out.box; go_wp2_with fail
    clear k0 k1 k2 k3 k4 k5 k6 k7 k8; refine (Zgo HH.out (lackA gs A2.sc gc gp gq) _ HIS.out (Z09 HTB.out HL.out.below)).mono ?_; rintro e w5 ⟨rfl,hb⟩; have hb2 := Z0q w5 (.cells #[.int .i64 5,.int .i64 0,.int .u64 3] 44); have HL6 := hid ((HL.out.later hb).later hb2); have HIS6 := hid ((HIS.out.later (hb.trans (hb2.mono hb.size))).mono (Nat.le_trans hb.size hb2.size)); clear hb hb2 HL HIS; obtain ⟨k0,k1,k2,k3,k4,k5,k6,k7,k8,_⟩ := Z1f HL6.out.box; go_wp2_with fail
    clear k0 k1 k2 k3 k4 k5 k6 k7 k8; refine (Zbj HH.out (lackA gs A2.sc gc gp gq) _ HIS6.out (Z09 HTB.out HL6.out.below)).mono ?_; rintro e w7 ⟨a,c,rfl,hn,hb⟩; have hb2 := Z0q w7 (.cells #[.int .i64 1] 3); have HB8 := hid (HL6.out.below.trans ((hb.trans (hb2.mono hb.size)).mono HL6.out.below.size)); have HN1 := hid (hn.later hb2); have HN2 := hid (Zju w7); clear hb hb2 hn HL6 HIS6; go_wp2_with fail
    refine (Zkb (l1 := [1]) (l2 := [1]) _ HN1.out HN2.out (by decide) rfl).mono ?_
    rintro e w9 ⟨rfl,hb⟩; have HB9 := hid (HB8.out.trans (hb.mono HB8.out.size)); clear hb HN1 HN2 HB8; go_wp2_with fail
    refine (Zce HRS.out _).mono ?_; rintro e w10 ⟨rfl,hb⟩; have HB10 := hid (HB9.out.trans (hb.mono HB9.out.size)); clear hb; go_wp2_with fail
    go_ret
    exact ⟨rfl,HB10.out⟩
end Go.Proofs.YtfkommjlmolniaaGreatDoor
end
