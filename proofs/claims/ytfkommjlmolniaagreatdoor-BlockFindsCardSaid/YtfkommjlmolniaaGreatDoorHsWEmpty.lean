/- Joined: WEmpty. -/
import Derived.Test.YtfkommjlmolniaaGreatDoorHd7
import Derived.Deep.RegionWith
import Derived.Deep.RegionHeld3
import Derived.StillTailTactics
import Derived.Maps.RangeWalk
import Derived.Test.YtfkommjlmolniaaGreatDoorHd6
set_option linter.unusedVariables false
section

namespace Go.Proofs.YtfkommjlmolniaaGreatDoor
set_option maxHeartbeats 16000000
set_option maxRecDepth 100000
open Go.Lib (hid)
open List (setIfInBounds_toArray set_cons_zero set_cons_succ getElem_toArray getElem_cons_zero getElem_cons_succ)
open Go.RowKit
variable {w wr w2 w4 : World} {E : Env} {fl st st2 : Nat → Int} {hi nx hi2 nx2 : Nat → Nat} {mn mn2 : Nat → Int} {fv : Nat → Value} {Q : Nat → List Nat} {top m : Int} {N g c u v k : Nat} {a : La}
structure Busy (E : Env) (u : Nat) (wr : World) (fl : Nat → Int) (hi nx : Nat → Nat) (fv : Nat → Value) (Q : Nat → List Nat) (top : Int) : Prop where
 wk : Wk E fl (exc E fl) hi nx (cnt E.N hi) fv Q top wr
 pr : PRE E fl hi nx
 que : Que E (exc E fl) Q top u
structure EmpS (E : Env) (w0 : World) (u g k v : Nat) (bk : Bool) (fl : Nat → Int) (hi nx : Nat → Nat) (fv : Nat → Value) (Q : Nat → List Nat) (top : Int) (W : World) : Prop where
 below : Below E.C w0 W
 busy : Busy E u W fl hi nx fv Q top
 box : LBox W g k v bk
theorem Busy.later (h : Busy E u wr fl hi nx fv Q top) (hb : Below wr.heap.size wr w2) : Busy E u w2 fl hi nx fv Q top := ⟨h.wk.later hb,h.pr,h.que⟩
theorem EmpS.later {w0 : World} {bk : Bool} (h : EmpS E w0 u g k v bk fl hi nx fv Q top wr) (hb : Below wr.heap.size wr w2) : EmpS E w0 u g k v bk fl hi nx fv Q top w2 :=
 ⟨h.below.trans (hb.mono (by have := h.busy.wk.size; have := h.busy.wk.ord.cp; have := h.busy.wk.ord.dp; omega)),h.busy.later hb,(hb.block g (Array.getElem?_eq_some_iff.1 h.box).1).trans h.box⟩
abbrev EmpH (E : Env) (w0 : World) (u g k v : Nat) (bk : Bool) (fl : Nat → Int) (hi nx : Nat → Nat) (fv : Nat → Value) (Q : Nat → List Nat) (top : Int) (hu1 hv1 : Nat) (eu : Int) (W : World) : Prop :=
 W.cell? ⟨E.p,6,none⟩ = some (.slice (some ⟨E.sb,0,none⟩) E.N E.N) ∧ W.cell? ⟨E.p,7,none⟩ = some (.slice (some ⟨E.hb,0,none⟩) E.N E.N) ∧ W.cell? ⟨E.hb,u,none⟩ = some (.int .i64 (hu1 : Int)) ∧ W.cell? ⟨E.hb,v,none⟩ = some (.int .i64 (hv1 : Int)) ∧ W.cell? ⟨E.sb,u,none⟩ = some (.int .i64 eu) ∧
 W.cell? ⟨g,0,none⟩ = some (.int .i64 (k : Int)) ∧ W.cell? ⟨g,1,none⟩ = some (.int .i64 (v : Int)) ∧ W.cell? ⟨g,2,none⟩ = some (.bool bk) ∧ EmpS E w0 u g k v bk fl hi nx fv Q top W
theorem EmpS.held {w0 : World} {bk : Bool} {hu1 hv1 : Nat} {eu : Int} (h : EmpS E w0 u g k v bk fl hi nx fv Q top wr) (hu : u < E.N) (hv : v < E.N) (h1 : hi u = hu1) (h2 : hi v = hv1) (h3 : exc E fl u = eu) : EmpH E w0 u g k v bk fl hi nx fv Q top hu1 hv1 eu wr := by
 subst h1 h2 h3; obtain ⟨_,_,_,_,_,_,x6,x7,_⟩ := h.busy.wk.cellW; obtain ⟨l0,l1,l2⟩ := h.box.cells; exact ⟨x6,x7,h.busy.wk.high.cell hu,h.busy.wk.high.cell hv,h.busy.wk.stays.cell hu,l0,l1,l2,h⟩
theorem Z05 {P : Program} {md : Region.Mode} {ops : Array Oper} {Q : Exit → Act → World → Prop} {S : World → Prop} (i : Nat) {oi : Oper} {v : Value} {fuel : Nat} {listed : Array Bool} {a : Act} {w : World} (hS : S w) (h : wpAnyH P md ops Q S fuel (listed.setIfInBounds i true) (a.put oi.dst v) w) (hi : ops[i]? = some oi := by exact rfl) (hs : Region.noSelect ops = true := by kernel_rfl) (hf : Region.free md ops listed i = true := by kernel_rfl) (hr : (Region.ready md ops listed).contains i = true := by kernel_rfl) (hQ : ∀ c a w,Q (.panic c) (a.put oi.dst v) w → Q (.panic c) a w := by exact fun _ _ _ h => h) (hw : Region.wanted oi (yielded ops a.tmps) = true := by rfl) (y : ∀ w,S w → (execOp a.eval oi).run P w = .ok (.value v) w := by intro W0 hW; obtain ⟨hW1,hW2,hW3,hW4,hW5,hW6,hW7,hW8,_⟩ := hW; go_simp; (try with_reducible rfl)) : wpAnyH P md ops Q S (fuel + 1) listed a w := stpT i hS h hi hs hf hr hQ hw y
theorem Zjh {fl0 : Nat → Int} {hi0 nx0 : Nat → Nat} (H : Busy E u wr fl0 hi0 nx0 fv Q top) (hn : E.Net) (hu : u < E.N) (hus : u ≠ E.s) (hut : u ≠ E.t) :
  Calls Tryz.prog 77 #[.pointer (some ⟨E.p,0,none⟩),.int .i64 (u : Int)] wr fun e w' => e = .returned (.tuple #[]) ∧ Below E.C wr w' ∧
   ∃ fl hi nx fv Q top,Busy E E.N w' fl hi nx fv Q top ∧ (0 < exc E fl0 u → measE E fl hi nx < measE E fl0 hi0 nx0) := by
 obtain ⟨w0,hw0⟩ : ∃ w0,w0 = wr := ⟨_,rfl⟩; rw [← hw0] at H ⊢; clear hw0; have hN := hn.nm; have HN := hid hn; have HUS := hid hus; have HUT := hid hut; have H0 := hid (And.intro (Below.refl E.C w0) H); obtain ⟨M,hM⟩ : ∃ M,(E.L u).length = M := ⟨_,rfl⟩; have hMb : M ≤ 40000 := by have := hn.many u; omega
 have HMM := hid hM; obtain ⟨va,vc,hv⟩ := H.wk.rowV hu; rw [hM] at hv; have HV := hid hv; clear H hn hus hut hM hv; go_enter Tryz.func77,Tryz.ntmps77
 go_wp2_with fail
 go_loopg [4] (measE E fl0 hi0 nx0) (fun gn _ wr => ∃ fl hi nx fv Q top,gn = measE E fl hi nx ∧ Hid (Below E.C w0 wr ∧ Busy E u wr fl hi nx fv Q top) ∧ Hid (gn < measE E fl0 hi0 nx0 ∨ (gn = measE E fl0 hi0 nx0 ∧ exc E fl u = exc E fl0 u)))
 case atStart => exact ⟨_,_,_,_,_,_,rfl,H0,hid (.inr ⟨rfl,rfl⟩)⟩
 case round =>
  obtain ⟨fl,hi,nx,fv,Q,top,hgk,HW,HE⟩ := hrel; clear H0; obtain ⟨_,_,_,_,x4,_,x6,x7,_,x9,_,_⟩ := HW.out.2.wk.cellW; have r0 := HW.out.2.wk.stays.cell hu; obtain ⟨eu,heu⟩ : ∃ z,exc E fl u = z := ⟨_,rfl⟩; have HEU := hid heu; rw [heu] at r0; clear heu; by_cases h0 : 0 < eu
  ·have r1 := HW.out.2.wk.next.cell hu
   have r2 := HW.out.2.wk.lanes.out.cell hu; rw [HV.out] at r2; have hnb := HW.out.2.pr.nxb u hu; rw [HMM.out] at hnb; obtain ⟨q,hq⟩ : ∃ q,nx u = q := ⟨_,rfl⟩; have HQ := hid hq; rw [hq] at r1 hnb; clear hq; by_cases hqM : q = M
   ·have hqb : ((q : Int) == (M : Int)) = true := by simp [hqM]
    have HQM := hid hqM; clear hqM; go_wp2_with fail
    go_quiet (fail)
    go_wp2_with (go_at_call 112; refine (Zm0 (HW.out.2.wk.later (Z03 (Below.refl wr.heap.size wr) nq)) HN.out HW.out.2.pr u hu HUS.out HUT.out (by rw [HQ.out,HMM.out,HQM.out]) (by have := HEU.out; unfold exc at this; omega)).mono ?_; rintro e w2 ⟨rfl,hb2,hi2,nx2,hk2,hp2,hm2⟩; have HK2 := hid hk2; have HP2 := hid hp2; have HM2 := hid hm2; have HB2 := hid ((Z03 HW.out.1 nq).trans hb2); clear hb2 hk2 hp2 hm2)
    go_roundg (measE E fl hi2 nx2)
    case measure => have := HM2.out; omega
    case rel => exact ⟨fl,hi2,nx2,fv,Q,top,rfl,hid ⟨HB2.out,HK2.out,HP2.out,HW.out.2.que⟩,hid (.inl (by have := HM2.out; rcases HE.out with h | h <;> omega))⟩
   ·have hqb : ((q : Int) == (M : Int)) = false := by simp; omega
    have hqlt : q < M := by omega
    clear hqM; obtain ⟨lb,off,cap,k,v,bk,hv2,hj,c0,c1,c2⟩ := HW.out.2.wk.lane (q := q) hu (by rw [HMM.out]; exact hqlt)
    rw [HV.out] at hv2; injection hv2 with e1 e2 e3
    clear e2; subst e1 e3; obtain ⟨hk,hvN,huv⟩ := HN.out.lane HW.out.2.wk hu hj; have HJ := hid hj; clear hj; go_wp2_with fail
    go_quiet (fail)
    go_wp2_with fail
    have HWq := hid (And.intro (Z03 HW.out.1 nq) (HW.out.2.wk.later (Z03 (Below.refl wr.heap.size wr) nq))); have HCq : Hid ((wr.drewN nq).cell? ⟨lb,off + q * 3,none⟩ = some (.int .i64 (k : Int)) ∧ (wr.drewN nq).cell? ⟨lb,off + q * 3 + 1,none⟩ = some (.int .i64 (v : Int)) ∧ (wr.drewN nq).cell? ⟨lb,off + q * 3 + 2,none⟩ = some (.bool bk)) := hid ⟨c0,c1,c2⟩; obtain ⟨wq,hwq⟩ : ∃ wq,wr.drewN nq = wq := ⟨_,rfl⟩; rw [hwq] at HWq HCq ⊢; clear hwq x4 x6 x7 x9 r0 r1 r2 c0 c1 c2; obtain ⟨_,_,_,_,x4,_,x6,x7,_,x9,_,_⟩ := HWq.out.2.cellW; have r1 := HWq.out.2.next.cell hu; have r2 := HWq.out.2.lanes.out.cell hu; rw [HV.out] at r2; rw [HQ.out] at r1; obtain ⟨c0,c1,c2⟩ := HCq.out; have HA := HWq.out.2.later ((Below.refl wq.heap.size wq).alloc (Nat.le_refl _) (.cells #[.int .i64 0,.int .i64 0,.bool false] 140)); obtain ⟨_,_,_,_,y4,_,y6,y7,_,y9,_,_⟩ := HA.cellW; have s1 := HA.next.cell hu; have s2 := HA.lanes.out.cell hu; rw [HV.out] at s2; rw [HQ.out] at s1; have hlbs : lb < wq.heap.size := World.block_lt_of_cell? wq _ c0; have d0 : (wq.alloc (.cells #[.int .i64 0,.int .i64 0,.bool false] 140)).cell? ⟨lb,off + q * 3,none⟩ = some (.int .i64 (k : Int)) := (World.cell?_alloc_past _ _ _ hlbs).trans c0; have d1 : (wq.alloc (.cells #[.int .i64 0,.int .i64 0,.bool false] 140)).cell? ⟨lb,off + q * 3 + 1,none⟩ = some (.int .i64 (v : Int)) := (World.cell?_alloc_past _ _ _ hlbs).trans c1; have d2 : (wq.alloc (.cells #[.int .i64 0,.int .i64 0,.bool false] 140)).cell? ⟨lb,off + q * 3 + 2,none⟩ = some (.bool bk) := (World.cell?_alloc_past _ _ _ hlbs).trans c2; clear HA; go_region
    have HS3 : Hid (EmpS E w0 u wq.heap.size k v bk fl hi nx fv Q top (wq.alloc (.cells #[.int .i64 (k : Int),.int .i64 (v : Int),.bool bk] 140)).drew) := hid (by
     have hC : E.C ≤ wq.heap.size := by have := HWq.out.2.size; have := HWq.out.2.ord.cp; have := HWq.out.2.ord.dp; omega
     exact ⟨(HWq.out.1.alloc hC _).drew,⟨HWq.out.2.later ((Below.refl _ _).alloc (Nat.le_refl _) _).drew,HW.out.2.pr,HW.out.2.que⟩,heap_alloc_new _ _⟩)
    obtain ⟨g,hg⟩ : ∃ g,wq.heap.size = g := ⟨_,rfl⟩; obtain ⟨w3,hw3⟩ : ∃ w3,(wq.alloc (.cells #[.int .i64 (k : Int),.int .i64 (v : Int),.bool bk] 140)).drew = w3 := ⟨_,rfl⟩; have HGD : Hid (E.D ≤ g) := hid (by have := HWq.out.2.size; omega)
    have HFG : Hid ((fv (hi v)).ownBlock ≠ some g) := hid (by have := HWq.out.2.far (HW.out.2.pr.bound v hvN); rw [hg] at this; exact this)
    rw [hg,hw3] at HS3; rw [hg,hw3]; clear hw3 hg hlbs c0 c1 c2 d0 d1 d2 x4 x6 x7 x9 r1 r2 y4 y6 y7 y9 s1 s2 HWq HCq; obtain ⟨hu1,hhu⟩ : ∃ z,hi u = z := ⟨_,rfl⟩; obtain ⟨hv1,hhv⟩ : ∃ z,hi v = z := ⟨_,rfl⟩; have HHU := hid hhu; have HHV := hid hhv; have hvb : hv1 < 2 * E.N := by have := HW.out.2.pr.bound v hvN; omega
    have ew : IntKind.i64.wrap ((hv1 : Int) + 1) = (hv1 : Int) + 1 := by rw [IntKind.wrap_i64]; omega
    obtain ⟨d,hd⟩ : ∃ d,lft E.l fl (k,v,bk) = d := ⟨_,rfl⟩; have HD := hid hd; have HCP := hid (Zjj HW.out.2.pr HN.out); have HLF : Hid (∀ W,EmpS E w0 u g k v bk fl hi nx fv Q top W → Calls Tryz.prog 110 #[.pointer (some ⟨E.p,0,none⟩),.agg #[.int .i64 (k : Int),.int .i64 (v : Int),.bool bk]] W fun e w' => e = .returned (.int .i64 d) ∧ Below W.heap.size W w') := hid (fun W hW => by
     have := Z8x hW.busy.wk k v bk hk HCP.out; rw [HD.out] at this; exact this)
    clear hhu hhv hd; by_cases hdd : hu1 = hv1 + 1
    ·have hdb : ((hu1 : Int) == (hv1 : Int) + 1) = true := by simp; omega
     obtain ⟨a6,a7,b0,b1,b2,l0,l1,l2,_⟩ := HS3.out.held hu hvN HHU.out HHV.out HEU.out; by_cases hpos : 0 < d
     ·go_wp2_with fail
      have HS3d := hid (HS3.out.later (Below.refl w3.heap.size w3).drew); refine wp_region_held_drew (S := fun W => EmpH E w0 u g k v bk fl hi nx fv Q top hu1 hv1 eu W) (by kernel_rfl) (HS3d.out.held hu hvN HHU.out HHV.out HEU.out) (fun hHeld => ?_)
      clear a6 a7 b0 b1 b2 l0 l1 l2; refine Z05 0 hHeld ?_; try simp only [Act.put,setIfInBounds_toArray,set_cons_zero,set_cons_succ,getElem_toArray,getElem_cons_zero]
      refine Z05 1 hHeld ?_; try simp only [Act.put,layT]
      refine Z05 2 hHeld ?_; try simp only [Act.put,layT]
      refine Z05 3 hHeld ?_; try simp only [Act.put,layT]
      refine Z05 4 hHeld ?_; try simp only [Act.put,layT]
      refine Z05 5 hHeld ?_; try simp only [Act.put,layT]
      refine Z05 6 hHeld ?_; try simp only [Act.put,layT]
      refine Z05 7 hHeld ?_; try simp only [Act.put,layT]
      refine Z05 8 hHeld ?_; try simp only [Act.put,layT]
      refine Z05 9 hHeld ?_; try simp only [Act.put,layT]
      refine Z05 10 hHeld ?_; try simp only [Act.put,layT]
      refine Z05 11 hHeld ?_; try simp only [Act.put,layT]
      refine Z05 12 hHeld ?_; try simp only [Act.put,layT]
      refine Z05 13 hHeld ?_; try simp only [Act.put,layT]
      refine Z05 14 hHeld ?_; try simp only [Act.put,layT]
      refine Z05 15 hHeld ?_; try simp only [Act.put,layT]
      refine Z05 16 hHeld ?_; try simp only [Act.put,layT]
      refine Z05 17 hHeld ?_; try simp only [Act.put,layT]
      refine Z05 18 hHeld ?_; try simp only [Act.put,layT]
      refine Z05 19 hHeld ?_; try simp only [Act.put,layT]
      refine stpR 20 (fun K hK => ?_); go_simp; refine (HLF.out _ HS3d.out).mono ?_; rintro e w4 ⟨rfl,hb4⟩; have HS4 := hid (HS3d.out.later hb4); clear hb4; go_wp2_with fail; refine hK.out _ _ ?_ (fun hHeld => ?_)
      ·exact HS4.out.held hu hvN HHU.out HHV.out HEU.out
      clear hK K; try simp only [Act.put,layT]
      refine Z05 21 hHeld ?_; try simp only [Act.put,layT]
      refine Z05 22 hHeld ?_; try simp only [Act.put,layT]
      refine wpAnyH_done (by kernel_rfl) ?_ _
      clear hHeld; have HHD : Hid (hi u = hi v + 1) := hid (by have := HHU.out; have := HHV.out; omega)
      have HM0 : Hid (0 < min eu d) := hid (by omega)
      have HM1 : Hid (min eu d ≤ d ∧ min eu d ≤ eu) := hid (by omega)
      have HVB : Hid (hi v < 2 * E.N) := hid (HW.out.2.pr.bound v hvN); have HVX : Hid (v = E.s ∨ 0 ≤ exc E fl v) := hid (by by_cases h : v = E.s; (· exact .inl h); (· exact .inr (HW.out.2.pr.exc v hvN h)))
      have HPN : Hid (PRE E (push fl (k,v,bk) (min eu d)) hi nx) := hid (HW.out.2.pr.push_ HN.out.lanes hu HUS.out HJ.out HHD.out (by have := HM0.out; omega) (by rw [HD.out]; exact HM1.out.1) (by have := HM1.out.2; have := HEU.out; unfold exc at this; omega))
      have HMP : Hid (measE E (push fl (k,v,bk) (min eu d)) hi nx < gk) := hid (by rw [hgk]; exact Zip HW.out.2.pr HPN.out HN.out.ok HN.out.lanes hu (List.mem_of_getElem? HJ.out) HHD.out HM0.out)
      go_wp2_with fail
      have HS5 := hid (HS4.out.later (Below.refl w4.heap.size w4).drew); have HSE : Hid (∀ W,EmpS E w0 u g k v bk fl hi nx fv Q top W → W.cell? ⟨E.p,6,none⟩ = some (.slice (some ⟨E.sb,0,none⟩) E.N E.N) ∧ W.cell? ⟨g,0,none⟩ = some (.int .i64 (k : Int)) ∧ W.cell? ⟨g,1,none⟩ = some (.int .i64 (v : Int)) ∧ W.cell? ⟨g,2,none⟩ = some (.bool bk)) := hid (fun W hW => by obtain ⟨q1,_,_,_,_,q2,q3,q4,_⟩ := hW.held hu hvN HHU.out HHV.out HEU.out; exact ⟨q1,q2,q3,q4⟩)
      have s5 := HS5.out.busy.wk.stays.cell hu; rw [HEU.out] at s5; obtain ⟨mm,hm3⟩ : ∃ mm,min eu d = mm := ⟨_,rfl⟩; rw [hm3] at HM0 HM1 HPN HMP; have hm1 : (if d < eu then d else eu) = mm := by split <;> omega
      have hm2 : (if eu < d then eu else d) = mm := by split <;> omega
      have hm4 : min d eu = mm := by omega
      refine wp_region_held_drew (S := fun W => W.cell? ⟨E.p,6,none⟩ = some (.slice (some ⟨E.sb,0,none⟩) E.N E.N) ∧ W.cell? ⟨g,0,none⟩ = some (.int .i64 (k : Int)) ∧ W.cell? ⟨g,1,none⟩ = some (.int .i64 (v : Int)) ∧ W.cell? ⟨g,2,none⟩ = some (.bool bk)) (by kernel_rfl) (HSE.out _ HS5.out) (fun hHeld => ?_)
      refine stpT 0 hHeld ?_ (y := fun W0 hW => by obtain ⟨hW1,hW2,hW3,hW4⟩ := hW; go_simp; (try with_reducible rfl))
      try simp only [Act.put,setIfInBounds_toArray,set_cons_zero,set_cons_succ,getElem_toArray,getElem_cons_zero]
      refine stpT 1 hHeld ?_ (y := fun W0 hW => by obtain ⟨hW1,hW2,hW3,hW4⟩ := hW; go_simp; (try with_reducible rfl))
      try simp only [Act.put,layT]
      refine stpT 2 hHeld ?_ (y := fun W0 hW => by obtain ⟨hW1,hW2,hW3,hW4⟩ := hW; go_simp; (try with_reducible rfl))
      try simp only [Act.put,layT]
      refine stpT 3 hHeld ?_ (y := fun W0 hW => by obtain ⟨hW1,hW2,hW3,hW4⟩ := hW; go_simp; (try with_reducible rfl))
      try simp only [Act.put,layT]
      refine stpT 4 hHeld ?_ (y := fun W0 hW => by obtain ⟨hW1,hW2,hW3,hW4⟩ := hW; go_simp; (try with_reducible rfl))
      try simp only [Act.put,layT]
      refine stpT 5 hHeld ?_ (y := fun W0 hW => by obtain ⟨hW1,hW2,hW3,hW4⟩ := hW; go_simp; (try with_reducible rfl))
      try simp only [Act.put,layT]
      refine stpT 6 hHeld ?_ (y := fun W0 hW => by obtain ⟨hW1,hW2,hW3,hW4⟩ := hW; go_simp; (try with_reducible rfl))
      try simp only [Act.put,layT]
      refine stpT 7 hHeld ?_ (y := fun W0 hW => by obtain ⟨hW1,hW2,hW3,hW4⟩ := hW; go_simp; (try with_reducible rfl))
      try simp only [Act.put,layT]
      refine stpT 8 hHeld ?_ (y := fun W0 hW => by obtain ⟨hW1,hW2,hW3,hW4⟩ := hW; go_simp; (try with_reducible rfl))
      try simp only [Act.put,layT]
      refine stpT 10 hHeld ?_ (y := fun W0 hW => by obtain ⟨hW1,hW2,hW3,hW4⟩ := hW; go_simp; (try with_reducible rfl))
      try simp only [Act.put,layT]
      refine stpT 11 hHeld ?_ (y := fun W0 hW => by obtain ⟨hW1,hW2,hW3,hW4⟩ := hW; go_simp; (try with_reducible rfl))
      try simp only [Act.put,layT]
      refine wpAnyH_ready (rs := [9,12]) (by kernel_rfl) (by simp) ?_
      refine AllReadyH.cons rfl (fun K hK => ?_) (AllReadyH.cons rfl (fun K hK => ?_) AllReadyH.nil)
      ·go_simp
       refine hK.out _ _ ?_ (fun hHeld => ?_)
       ·exact hHeld
       clear hK K; try simp only [Act.put,layT]
       refine stpR 12 (fun K hK => ?_); go_simp; refine (HLF.out _ HS5.out).mono ?_; rintro e w5 ⟨rfl,hb5⟩; have HS6 := hid (HS5.out.later hb5); have s6 := HS6.out.busy.wk.stays.cell hu; rw [HEU.out] at s6; clear hb5; go_wp2_with fail; refine hK.out _ _ ?_ (fun hHeld => ?_)
       ·exact HSE.out _ HS6.out
       clear hK K; try simp only [Act.put,layT]
       refine stpR 13 (fun K hK => ?_); go_simp; refine hK.out _ _ ?_ (fun hHeld => ?_)
       ·exact hHeld
       clear hK K; try simp only [Act.put,layT]
       refine stpR 14 (fun K hK => ?_); go_simp; refine (Z90 HS6.out.busy.wk HN.out HCP.out hu bk (List.mem_of_getElem? HJ.out) HVB.out HM0.out (by rw [HD.out]; exact HM1.out.1) HW.out.2.que HVX.out).mono ?_; rintro e w6 ⟨rfl,hb6,fv2,Q2,top2,hk6,hq6,has6⟩; have HK6 := hid hk6; have HQ6 := hid hq6; have HB6 := hid (HS6.out.below.trans hb6); have HL6 : Hid (LBox w6 g k v bk) := hid ((has6 g HGD.out (Array.getElem?_eq_some_iff.1 HS6.out.box).1 HFG.out).trans HS6.out.box); clear hb6 hk6 hq6 has6; go_wp2_with fail
       refine hK.out _ _ ?_ (fun hHeld => ?_)
       ·exact ⟨HK6.out.cellW.2.2.2.2.2.2.1,HL6.out.cells⟩
       clear hK K; try simp only [Act.put,layT]
       refine wpAnyH_done (by kernel_rfl) ?_ _
       clear hHeld; go_wp2_with fail
       go_roundg (measE E (push fl (k,v,bk) mm) hi nx)
       case measure => exact HMP.out
       case rel => exact ⟨_,hi,nx,fv2,Q2,top2,rfl,hid ⟨HB6.out,HK6.out,HPN.out,HQ6.out⟩,hid (.inl (by have := HMP.out; rcases HE.out with h | h <;> omega))⟩
      ·go_simp
       refine (HLF.out _ HS5.out).mono ?_; rintro e w5 ⟨rfl,hb5⟩; have HS6 := hid (HS5.out.later hb5); have s6 := HS6.out.busy.wk.stays.cell hu; rw [HEU.out] at s6; clear hb5; go_wp2_with fail; refine hK.out _ _ ?_ (fun hHeld => ?_)
       ·exact HSE.out _ HS6.out
       clear hK K; try simp only [Act.put,layT]
       refine stpR 9 (fun K hK => ?_); go_simp; refine hK.out _ _ ?_ (fun hHeld => ?_)
       ·exact hHeld
       clear hK K; try simp only [Act.put,layT]
       refine stpR 13 (fun K hK => ?_); go_simp; refine hK.out _ _ ?_ (fun hHeld => ?_)
       ·exact hHeld
       clear hK K; try simp only [Act.put,layT]
       refine stpR 14 (fun K hK => ?_); go_simp; refine (Z90 HS6.out.busy.wk HN.out HCP.out hu bk (List.mem_of_getElem? HJ.out) HVB.out HM0.out (by rw [HD.out]; exact HM1.out.1) HW.out.2.que HVX.out).mono ?_; rintro e w6 ⟨rfl,hb6,fv2,Q2,top2,hk6,hq6,has6⟩; have HK6 := hid hk6; have HQ6 := hid hq6; have HB6 := hid (HS6.out.below.trans hb6); have HL6 : Hid (LBox w6 g k v bk) := hid ((has6 g HGD.out (Array.getElem?_eq_some_iff.1 HS6.out.box).1 HFG.out).trans HS6.out.box); clear hb6 hk6 hq6 has6; go_wp2_with fail
       refine hK.out _ _ ?_ (fun hHeld => ?_)
       ·exact ⟨HK6.out.cellW.2.2.2.2.2.2.1,HL6.out.cells⟩
       clear hK K; try simp only [Act.put,layT]
       refine wpAnyH_done (by kernel_rfl) ?_ _
       clear hHeld; go_wp2_with fail
       go_roundg (measE E (push fl (k,v,bk) mm) hi nx)
       case measure => exact HMP.out
       case rel => exact ⟨_,hi,nx,fv2,Q2,top2,rfl,hid ⟨HB6.out,HK6.out,HPN.out,HQ6.out⟩,hid (.inl (by have := HMP.out; rcases HE.out with h | h <;> omega))⟩
     ·have HSK := hid (HW.out.2.pr.skip hu (by rw [HQ.out]; exact HJ.out) (fun h => hpos (by have := h.2; rw [HD.out] at this; exact this)))
      go_wp2_with fail
      have HS3d := hid (HS3.out.later (Below.refl w3.heap.size w3).drew); refine wp_region_held_drew (S := fun W => EmpH E w0 u g k v bk fl hi nx fv Q top hu1 hv1 eu W) (by kernel_rfl) (HS3d.out.held hu hvN HHU.out HHV.out HEU.out) (fun hHeld => ?_)
      clear a6 a7 b0 b1 b2 l0 l1 l2; refine Z05 0 hHeld ?_; try simp only [Act.put,setIfInBounds_toArray,set_cons_zero,set_cons_succ,getElem_toArray,getElem_cons_zero]
      refine Z05 1 hHeld ?_; try simp only [Act.put,layT]
      refine Z05 2 hHeld ?_; try simp only [Act.put,layT]
      refine Z05 3 hHeld ?_; try simp only [Act.put,layT]
      refine Z05 4 hHeld ?_; try simp only [Act.put,layT]
      refine Z05 5 hHeld ?_; try simp only [Act.put,layT]
      refine Z05 6 hHeld ?_; try simp only [Act.put,layT]
      refine Z05 7 hHeld ?_; try simp only [Act.put,layT]
      refine Z05 8 hHeld ?_; try simp only [Act.put,layT]
      refine Z05 9 hHeld ?_; try simp only [Act.put,layT]
      refine Z05 10 hHeld ?_; try simp only [Act.put,layT]
      refine Z05 11 hHeld ?_; try simp only [Act.put,layT]
      refine Z05 12 hHeld ?_; try simp only [Act.put,layT]
      refine Z05 13 hHeld ?_; try simp only [Act.put,layT]
      refine Z05 14 hHeld ?_; try simp only [Act.put,layT]
      refine Z05 15 hHeld ?_; try simp only [Act.put,layT]
      refine Z05 16 hHeld ?_; try simp only [Act.put,layT]
      refine Z05 17 hHeld ?_; try simp only [Act.put,layT]
      refine Z05 18 hHeld ?_; try simp only [Act.put,layT]
      refine Z05 19 hHeld ?_; try simp only [Act.put,layT]
      refine stpR 20 (fun K hK => ?_); go_simp; refine (HLF.out _ HS3d.out).mono ?_; rintro e w4 ⟨rfl,hb4⟩; have HS4 := hid (HS3d.out.later hb4); clear hb4; go_wp2_with fail; refine hK.out _ _ ?_ (fun hHeld => ?_)
      ·exact HS4.out.held hu hvN HHU.out HHV.out HEU.out
      clear hK K; try simp only [Act.put,layT]
      refine Z05 21 hHeld ?_; try simp only [Act.put,layT]
      refine Z05 22 hHeld ?_; try simp only [Act.put,layT]
      refine wpAnyH_done (by kernel_rfl) ?_ _
      clear hHeld; have HK4 := hid (HS4.out.busy.wk.setNext u (z := (q : Int) + 1) (m := nx u + 1) (by have := HQ.out; omega))
      have HB4 := hid (HS4.out.below.setCell (p := ⟨E.nb,u,none⟩) HS4.out.busy.wk.ord.cn (.int .i64 ((q : Int) + 1))); have z9 := HS4.out.busy.wk.cellW.2.2.2.2.2.2.2.2.2.1; have zn := HS4.out.busy.wk.next.cell hu; rw [HQ.out] at zn; have zf := HS4.out.busy.wk.next.frozen u; have eq1 : IntKind.i64.wrap ((q : Int) + 1) = (q : Int) + 1 := by rw [IntKind.wrap_i64]; omega
      have HMS : Hid (measE E fl hi (Z0o nx u (nx u + 1)) < gk) := hid (by rw [hgk]; exact Zas HW.out.2.pr HSK.out HN.out.ok hu)
      go_wp2_with fail
      go_roundg (measE E fl hi (Z0o nx u (nx u + 1)))
      case measure => exact HMS.out
      case rel => exact ⟨fl,hi,_,fv,Q,top,rfl,hid ⟨HB4.out,HK4.out,HSK.out,HW.out.2.que⟩,hid (.inl (by have := HMS.out; rcases HE.out with h | h <;> omega))⟩
    ·have hdb : ((hu1 : Int) == (hv1 : Int) + 1) = false := by simp; omega
     obtain ⟨a6,a7,b0,b1,b2,l0,l1,l2,_⟩ := HS3.out.held hu hvN HHU.out HHV.out HEU.out; have HSK := hid (HW.out.2.pr.skip hu (by rw [HQ.out]; exact HJ.out) (fun h => hdd (by have := h.1; simp only [HHU.out,HHV.out] at this; exact this)))
     go_wp2_with fail
     go_quiet (fail)
     have HS4 := hid (HS3.out.later (Z03 (Below.refl _ _) nq)); obtain ⟨w4,hw4⟩ : ∃ w4,w3.drewN nq = w4 := ⟨_,rfl⟩; rw [hw4] at HS4 ⊢; clear hw4 a6 a7 b0 b1 b2 l0 l1 l2; have HK4 := hid (HS4.out.busy.wk.setNext u (z := (q : Int) + 1) (m := nx u + 1) (by have := HQ.out; omega))
     have HB4 := hid (HS4.out.below.setCell (p := ⟨E.nb,u,none⟩) HS4.out.busy.wk.ord.cn (.int .i64 ((q : Int) + 1))); have z9 := HS4.out.busy.wk.cellW.2.2.2.2.2.2.2.2.2.1; have zn := HS4.out.busy.wk.next.cell hu; rw [HQ.out] at zn; have zf := HS4.out.busy.wk.next.frozen u; have eq1 : IntKind.i64.wrap ((q : Int) + 1) = (q : Int) + 1 := by rw [IntKind.wrap_i64]; omega
     have HMS : Hid (measE E fl hi (Z0o nx u (nx u + 1)) < gk) := hid (by rw [hgk]; exact Zas HW.out.2.pr HSK.out HN.out.ok hu)
     go_wp2_with fail
     go_roundg (measE E fl hi (Z0o nx u (nx u + 1)))
     case measure => exact HMS.out
     case rel => exact ⟨fl,hi,_,fv,Q,top,rfl,hid ⟨HB4.out,HK4.out,HSK.out,HW.out.2.que⟩,hid (.inl (by have := HMS.out; rcases HE.out with h | h <;> omega))⟩
  ·have HE2 : Hid (0 < exc E fl0 u → gk < measE E fl0 hi0 nx0) := hid (fun h => by
    rcases HE.out with h2 | ⟨_,h2⟩
    ·exact h2
    ·have := HEU.out; omega)
   have HQ2 := hid (HW.out.2.que.done (by have := HEU.out; omega))
   go_wp2_with fail
   go_end0
   exact ⟨rfl,HW.out.1,fl,hi,nx,⟨fv,Q,top,HW.out.2.wk,HW.out.2.pr,HQ2.out⟩,by rw [← hgk]; exact HE2.out⟩
end Go.Proofs.YtfkommjlmolniaaGreatDoor
end
