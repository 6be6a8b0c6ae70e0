/- Joined: RMays. -/
import Derived.Test.YtfkommjlmolniaaGreatDoorHsRWays
import Derived.Maps.RangeWalk
import Derived.Test.YtfkommjlmolniaaGreatDoorHd6
set_option linter.unusedVariables false
section

namespace Go.Proofs.YtfkommjlmolniaaGreatDoor
set_option maxHeartbeats 16000000
set_option maxRecDepth 100000
open Go.Lib (hid)
open List (setIfInBounds_toArray set_cons_zero set_cons_succ getElem_toArray getElem_cons_zero getElem_cons_succ)
open Go.RowKit
variable {w w2 w4 wr : World} {B g n nc : Nat} {v rv : Value} {p : Nat → Nat → Bool}
def Z1i (l : List Bool) : List Value := l.map Value.bool
theorem Z31 (l : List Bool) (b : Bool) : Z1i (l ++ [b]) = Z1i l ++ [.bool b] := by simp [Z1i]
theorem Z5k (b : Bool) : ∀ u ∈ [Value.bool b],u.oneCell' = true := by
 intro u hu; simp at hu
 subst hu; rfl
theorem Zax : (Tryz.prog.info? 70).map (fun i => (i.zero,i.size,i.bytes)) = some (some (.slice none 0 0),1,24) := by kernel_rfl
def BRow (B : Nat) (w : World) (rv : Value) (nc : Nat) (f : Nat → Bool) : Prop := ∃ g c cs,rv = .slice (some ⟨g,0,none⟩) nc c ∧ B ≤ g ∧ w.heap[g]? = some (.cells cs 4 (0,0)) ∧ ∀ j,j < nc → cs[j]? = some (.bool (f j))
theorem BRow.lt {f : Nat → Bool} (h : BRow B w rv nc f) : ∀ b,rv.ownBlock = some b → B ≤ b ∧ b < w.heap.size := by
 obtain ⟨g,c,cs,rfl,hB,hg,_⟩ := h; intro b hb; injection hb with e
 simp only at e
 subst e; exact ⟨hB,(Array.getElem?_eq_some_iff.1 hg).1⟩
theorem BRow.kept {f : Nat → Bool} (h : BRow B w rv nc f) (he : ∀ b,rv.ownBlock = some b → w2.heap[b]? = w.heap[b]?) : BRow B w2 rv nc f := by
 obtain ⟨g,c,cs,rfl,hB,hg,hc⟩ := h; exact ⟨g,c,cs,rfl,hB,(he g rfl).trans hg,hc⟩
theorem BRow.rebase {B2 : Nat} {f : Nat → Bool} (h : BRow B w rv nc f) (hb : B2 ≤ B) : BRow B2 w rv nc f := by
 obtain ⟨g,c,cs,rfl,hB,hg,hc⟩ := h; exact ⟨g,c,cs,rfl,by omega,hg,hc⟩
theorem Zoa {T1 T2 : TypeId} {sz : Nat} {xs : List Value} {cs : Array Value} (h : w.ownsRow B T1 sz v n xs) (hb : w.heap[g]? = some (.cells cs T2 (0,0))) (hT : ¬ T1 = T2) : ¬ v.ownBlock = some g := by
 intro hv; rcases h.2 with ⟨e,_⟩ | ⟨g2,cap,cur,e,_,hg2,_⟩
 ·rw [e] at hv; cases hv
 ·subst e
  injection hv with hv
  simp only at hv
  subst hv; rw [hb] at hg2; injection hg2 with hg2
  injection hg2 with _ h2
  exact hT h2.symm
theorem BRow.grew {l : List Bool} (h : w.ownsRow B 4 1 rv l.length (Z1i l)) (h0 : 0 < l.length) : BRow B w rv l.length (fun j => l.getD j false) := by
 rcases h.2 with ⟨_,e⟩ | ⟨g,cap,cur,hv,hb,hg,h1,h2,h3,h4⟩
 ·omega
 ·refine ⟨g,cap,cur,hv,hb,hg,fun j hj => ?_⟩
  have h5 : (Z1i l)[j]? = some (.bool (l.getD j false)) := by simp [Z1i,List.getD,List.getElem?_eq_getElem hj]
  rw [← h4,List.getElem?_take,if_pos (by omega)] at h5
  simpa using h5
structure BRs (B : Nat) (w : World) (v : Value) (n nc : Nat) (p : Nat → Nat → Bool) : Prop where
 own : ∃ vs : List Value,w.ownsRow B 70 1 v n vs ∧ vs.length = n ∧ ∀ s,s < n → ∃ rv,vs[s]? = some rv ∧ BRow B w rv nc (p s)
theorem BRs.nil (B : Nat) (w : World) (nc : Nat) (p : Nat → Nat → Bool) : BRs B w (.slice none 0 0) 0 nc p := ⟨⟨[],⟨rfl,.inl ⟨rfl,rfl⟩⟩,rfl,fun s h => absurd h (by omega)⟩⟩
theorem BRs.later (h : BRs B w v n nc p) (hb : Below w.heap.size w w2) : BRs B w2 v n nc p := by
 obtain ⟨vs,h1,h2,h3⟩ := h.own; refine ⟨⟨vs,Z06 h1 hb,h2,fun s hs => ?_⟩⟩; obtain ⟨rv,e,hr⟩ := h3 s hs; exact ⟨rv,e,hr.kept fun b hb2 => hb.block b (hr.lt b hb2).2⟩
theorem BRs.shape (h : BRs B w v n nc p) : ∃ a c,v = .slice a n c := by
 obtain ⟨vs,h1,_⟩ := h.own; exact Z04 h1
theorem BRs.push {f : Nat → Bool} (h : BRs B w v n nc p) (hr : BRow B w rv nc f) :
  ∃ vs,w.ownsRow B 70 1 v n vs ∧ ∀ (g4 cap : Nat) (w4 : World),w4.ownsRow B 70 1 (.slice (some ⟨g4,0,none⟩) (n + 1) cap) (n + 1) (vs ++ [rv]) → w.grownBy w4 v.ownBlock → BRs B w4 (.slice (some ⟨g4,0,none⟩) (n + 1) cap) (n + 1) nc (fun s => if s = n then f else p s) := by
 obtain ⟨vs,h1,h2,h3⟩ := h.own; refine ⟨vs,h1,fun g4 cap w4 hown hgrow => ⟨⟨vs ++ [rv],hown,by simp [h2],fun s hs => ?_⟩⟩⟩
 have apart : ∀ {u : Value} {f2 : Nat → Bool},BRow B w u nc f2 → ∀ b,u.ownBlock = some b → ¬ v.ownBlock = some b := fun hu b hb hvb => by
  obtain ⟨g,c,cs,rfl,_,hg,_⟩ := hu; injection hb with hb
  simp only at hb
  subst hb; rcases h1.2 with ⟨e,_⟩ | ⟨g2,cap,cur,e,_,hg2,_⟩
  ·rw [e] at hvb; cases hvb
  ·subst e
   injection hvb with hvb
   simp only at hvb
   subst hvb; rw [hg] at hg2; injection hg2 with hg2
   injection hg2 with _ hT
   exact absurd hT (by decide)
 by_cases e : s = n
 ·subst e
  refine ⟨rv,by rw [List.getElem?_append_right (by omega),h2]; simp,?_⟩
  simp only [if_true]
  exact hr.kept fun b hb => hgrow.block b (hr.lt b hb).2 (fun e => apart hr b hb e.symm)
 ·obtain ⟨ru,e1,hu⟩ := h3 s (by omega)
  refine ⟨ru,by rw [List.getElem?_append_left (by omega)]; exact e1,?_⟩
  simp only [e,if_false]
  exact hu.kept fun b hb => hgrow.block b (hu.lt b hb).2 (fun e => apart hu b hb e.symm)
theorem BRs.congr {q : Nat → Nat → Bool} (h : BRs B w v n nc p) (e : ∀ s c,s < n → p s c = q s c) : BRs B w v n nc q := by
 obtain ⟨vs,h1,h2,h3⟩ := h.own; refine ⟨⟨vs,h1,h2,fun s hs => ?_⟩⟩; obtain ⟨rv,e1,g,c,cs,e2,hB,hg,hc⟩ := h3 s hs; exact ⟨rv,e1,g,c,cs,e2,hB,hg,fun j hj => by rw [hc j hj,e s j hs]⟩
theorem BRow.bools {f : Nat → Bool} (h : BRow B w rv nc f) : ∃ a c,rv = .slice a nc c ∧ IsBools w.heap.size w a nc f := by
 obtain ⟨g,c,cs,rfl,_,hg,hc⟩ := h; exact ⟨_,_,rfl,.inr ⟨g,0,rfl,(Array.getElem?_eq_some_iff.1 hg).1,fun j hj => by rw [Nat.zero_add]; simp [World.cell?,hg,hc j hj]⟩⟩
theorem BRs.at_ {a : Option Addr} {c s : Nat} (h : BRs B w (.slice a n c) n nc p) (hs : s < n) : ∃ b,a = some ⟨b,0,none⟩ ∧ b < w.heap.size ∧ ∃ ra rc,w.cell? ⟨b,s,none⟩ = some (.slice ra nc rc) ∧ IsBools w.heap.size w ra nc (p s) := by
 obtain ⟨vs,h1,h2,h3⟩ := h.own; obtain ⟨g,cap,e,_,hg,_⟩ := Z0x h1 (by omega)
 injection e with e1 _ e3
 subst e1; obtain ⟨rv,e2,hr⟩ := h3 s hs; obtain ⟨ra,rc,rfl,hb⟩ := hr.bools; exact ⟨g,rfl,hg,ra,rc,by rw [World.ownsRow.cellAt h1 s (by omega)]; exact e2,hb⟩
theorem Z00 {P : Program} {md : Region.Mode} {ops : Array Oper} {Q : Exit → Act → World → Prop} {S : World → Prop} (i : Nat) {oi : Oper} {v : Value} {fuel : Nat} {listed : Array Bool} {a : Act} {w : World} (hS : S w) (h : wpAnyH P md ops Q S fuel (listed.setIfInBounds i true) (a.put oi.dst v) w) (hi : ops[i]? = some oi := by exact rfl) (hs : Region.noSelect ops = true := by kernel_rfl) (hf : Region.free md ops listed i = true := by kernel_rfl) (hr : (Region.ready md ops listed).contains i = true := by kernel_rfl) (hQ : ∀ c a w,Q (.panic c) (a.put oi.dst v) w → Q (.panic c) a w := by exact fun _ _ _ h => h) (hw : Region.wanted oi (yielded ops a.tmps) = true := by rfl) (y : ∀ w,S w → (execOp a.eval oi).run P w = .ok (.value v) w := by intro Wz hWz; clear hWz; go_simp; (try with_reducible rfl)) : wpAnyH P md ops Q S (fuel + 1) listed a w := stpT i hS h hi hs hf hr hQ hw y
theorem Z6h (A : InA) (x : Ins) (w : World) (hi : IsIns w.heap.size w A x) (hm : May x) :
  Calls Tryz.prog 21 #[.agg (insC A x)] w fun e w' => ∃ (v : Value) (p : Nat → Nat → Bool),e = .returned v ∧ (∃ B,BRs B w' v x.sats.length x.cus.length p) ∧ MayOf x p ∧ Below w.heap.size w w' := by
 have HIW := hid hi; have HM := hid hm; have HX1 := hid (XBox.make (Below.refl _ w) A x); have hns := hm.ns; have hnc := hm.nc; have hbr := hm.br; have hen := hm.en; have HRD := hid (fun W (h : IsIns W.heap.size W A x) => Zcf A x W h HM.out); have HWY := hid (fun s W (hs : s < x.sats.length) (h : IsIns W.heap.size W A x) => Zlq A x s hs W h HM.out); obtain ⟨c0,c1,c2,c3,c4,c5,c6,c7,c8⟩ := HX1.out.cells; clear hi hm; unfold insC at *; go_enter Tryz.func21,Tryz.ntmps21
 go_wp2_with fail
 refine (HRD.out _ (HX1.out.pipesHere HIW.out)).mono ?_; rintro e w2 ⟨rd,ra,rc,rfl,hrd,hro,hb2⟩; have HX2 := hid (HX1.out.later hb2); obtain ⟨rb,ro,rfl,hrb,hrc⟩ : ∃ rb ro,ra = some ⟨rb,ro,none⟩ ∧ rb < w2.heap.size ∧ ∀ (j : Nat) (v : Int),rd[j]? = some v → w2.cell? ⟨rb,ro + j,none⟩ = some (.int .i64 v) := by
  rcases hrd.2 with h | ⟨b,off,e,h1,h2⟩
  ·have := hro.1; omega
  ·exact ⟨b,off,e,h1,h2⟩
 have HRC := hid hrc; have LRB := hid hrb; have HRO := hid hro; obtain ⟨gx,hgx⟩ : ∃ g,g = w.heap.size := ⟨_,rfl⟩; rw [← hgx] at HX2 ⊢; have HBA := hid (BRs.nil w2.heap.size w2 x.cus.length (fun _ _ => false)); have hrl := hro.1; have HRL := hid hrl; clear hgx hb2 HX1 c0 c1 c2 c3 c4 c5 c6 c7 c8 hrd hro hrl HRD hrb hrc; obtain ⟨-,-,-,-,-,c5,-,-,-⟩ := HX2.out.cells; go_wp2_with fail
 clear c5; go_loopw [3,18] (fun av iv wr => ∃ (s : Nat),iv = .int .i64 (s : Int) ∧ s ≤ x.sats.length ∧ Hid (XBox w wr gx A x) ∧ Hid (Below w2.heap.size w2 wr) ∧ Hid (∃ p,BRs w2.heap.size wr av s x.cus.length p ∧ ∀ s2,s2 < s → ∃ ou ba : List Int,OutOf x s2 ou ∧ BackOf x s2 ba ∧ ∀ c,c < x.cus.length → p s2 c = mayI x rd ou ba s2 c)) (fun _ iv _ => x.sats.length - (intOf iv).toNat)
 case atStart => exact ⟨0,rfl,Nat.zero_le _,HX2,hid (Below.refl _ _),hid ⟨_,HBA.out,fun s2 h => absurd h (by omega)⟩⟩
 case round =>
  obtain ⟨s,rfl,hs,HX,HB,HP⟩ := hrel; clear HBA; obtain ⟨aa,ac,rfl⟩ : ∃ aa ac,u3 = .slice aa s ac := by
   obtain ⟨p,h,_⟩ := HP.out; exact h.shape
  by_cases hst : s < x.sats.length
  ·obtain ⟨b,off,q,hA,hb,hq,p0,p1⟩ := (HIW.out.sats.later HX.out.below).at_ hst
   have HQ := hid hq; obtain ⟨r0,h0⟩ := q; simp only at p0 p1
   rw [hA]; have HHA := hid hA; clear hq hA; have hbn := (Below.refl wr.heap.size wr).alloc (Nat.le_refl _) (.cells #[.int .i64 r0,.int .i64 h0] 51); have HX3 := hid (HX.out.later hbn); have HT3 := hid (heap_alloc_new wr (.cells #[.int .i64 r0,.int .i64 h0] 51)); have HB3 := hid (HB.out.trans (hbn.mono HB.out.size)); have HP3 : Hid (∃ p,BRs w2.heap.size (wr.alloc (.cells #[.int .i64 r0,.int .i64 h0] 51)) (.slice aa s ac) s x.cus.length p ∧ ∀ s2,s2 < s → ∃ ou ba : List Int,OutOf x s2 ou ∧ BackOf x s2 ba ∧ ∀ c,c < x.cus.length → p s2 c = mayI x rd ou ba s2 c) := hid (by
    obtain ⟨p,h1,h2⟩ := HP.out; exact ⟨p,h1.later hbn,h2⟩)
   obtain ⟨i0,i1,i2,i3,i4,i5,i6,i7,i8⟩ := HX3.out.cells; clear hbn HX HB HP; go_wp2_with fail
   have hwy := HWY.out s _ hst (HX3.out.pipesHere HIW.out); unfold insC at hwy; refine hwy.mono ?_; clear hwy; rintro e w4 ⟨ou,ba,a1,a2,k1,k2,rfl,hn1,hn2,hou,hba,hb4⟩; have HOU := hid hou; have HBK := hid hba; have HOL := hid hou.1; have HKL := hid hba.1; obtain ⟨ob,oo,rfl,hob,hoc⟩ : ∃ ob oo,a1 = some ⟨ob,oo,none⟩ ∧ ob < w4.heap.size ∧ ∀ (j : Nat) (v : Int),ou[j]? = some v → w4.cell? ⟨ob,oo + j,none⟩ = some (.int .i64 v) := by
    rcases hn1.2 with h | ⟨b,off,e,h1,h2⟩
    ·have := hou.1; omega
    ·exact ⟨b,off,e,h1,h2⟩
   obtain ⟨kb,ko,rfl,hkb,hkc⟩ : ∃ kb ko,a2 = some ⟨kb,ko,none⟩ ∧ kb < w4.heap.size ∧ ∀ (j : Nat) (v : Int),ba[j]? = some v → w4.cell? ⟨kb,ko + j,none⟩ = some (.int .i64 v) := by
    rcases hn2.2 with h | ⟨b,off,e,h1,h2⟩
    ·have := hba.1; omega
    ·exact ⟨b,off,e,h1,h2⟩
   have HOC := hid hoc; have HKC := hid hkc; have LOB := hid hob; have LKB := hid hkb; have HX4 := hid (HX3.out.later hb4); obtain ⟨tb,htb⟩ : ∃ t,t = wr.heap.size := ⟨_,rfl⟩; have HT4 : Hid (w4.heap[tb]? = some (.cells #[.int .i64 r0,.int .i64 h0] 51 (0,0))) := hid (by rw [htb]; exact (hb4.block _ (Array.getElem?_eq_some_iff.1 HT3.out).1).trans HT3.out)
   have HB4 := hid (HB3.out.trans (hb4.mono HB3.out.size)); have HP4 : Hid (∃ p,BRs w2.heap.size w4 (.slice aa s ac) s x.cus.length p ∧ ∀ s2,s2 < s → ∃ ou ba : List Int,OutOf x s2 ou ∧ BackOf x s2 ba ∧ ∀ c,c < x.cus.length → p s2 c = mayI x rd ou ba s2 c) := hid (by
    obtain ⟨p,h1,h2⟩ := HP3.out; exact ⟨p,h1.later hb4,h2⟩)
   rw [← htb]; clear htb hn1 hn2 hou hba hob hoc hkb hkc hb4 HX3 HT3 HB3 HP3 i0 i1 i2 i3 i4 i5 i6 i7 i8 p0 p1; obtain ⟨-,-,-,-,-,-,c6,-,-⟩ := HX4.out.cells; have HL0 : Hid (w4.ownsRow w4.heap.size 4 1 (.slice none 0 0) 0 (Z1i [])) := hid ⟨by simp [Z1i],.inl ⟨rfl,rfl⟩⟩
   go_wp2_with fail
   clear c6; go_loopw [9,32] (fun lv iv wx => ∃ (c : Nat) (l : List Bool),iv = .int .i64 (c : Int) ∧ c ≤ x.cus.length ∧ Hid (wx.ownsRow w4.heap.size 4 1 lv c (Z1i l)) ∧ Hid (Below w4.heap.size w4 wx) ∧ Hid (l.length = c ∧ ∀ j,j < c → l[j]? = some (mayI x rd ou ba s j))) (fun _ iv _ => x.cus.length - (intOf iv).toNat)
   case atStart => exact ⟨0,[],rfl,Nat.zero_le _,HL0,hid (Below.refl _ _),hid ⟨rfl,fun j h => absurd h (by omega)⟩⟩
   case round =>
    obtain ⟨c,l,rfl,hc,HO,HBX,HL⟩ := hrel; clear HL0; obtain ⟨la,lc,rfl⟩ := Z04 HO.out; by_cases hct : c < x.cus.length
    ·obtain ⟨b2,off2,q2,hA2,hb2,hq2,p0,p1,p2,p3⟩ := (HIW.out.cus.later (HX4.out.later HBX.out).below).at_ hct
     have HQ2 := hid hq2; have hqb := HM.out.cus q2 (List.mem_of_getElem? hq2); obtain ⟨a0,a1,a2,a3⟩ := q2; simp only at p0 p1 p2 p3
     have hab : 0 ≤ a1 ∧ a1 ≤ 1000000000 := by
      simp [cusB,inB_] at hqb
      omega
     rw [hA2]; obtain ⟨rv,hrv⟩ : ∃ v,rd[s]? = some v := ⟨_,List.getElem?_eq_getElem (by rw [HRL.out]; exact hst)⟩
     obtain ⟨ov,hov⟩ : ∃ v,ou[c]? = some v := ⟨_,List.getElem?_eq_getElem (by rw [HOL.out]; exact hct)⟩
     obtain ⟨kv,hkv⟩ : ∃ v,ba[c]? = some v := ⟨_,List.getElem?_eq_getElem (by rw [HKL.out]; exact hct)⟩
     have br1 := HRO.out.in_ HM.out hrv; have br2 := HOU.out.in_ HM.out hst hov; have br3 := HBK.out.in_ HM.out hst hkv; have HRV := hid hrv; have HOV := hid hov; have HKV := hid hkv; have hrl : s < rd.length := by rw [HRL.out]; exact hst
     have hol : c < ou.length := by rw [HOL.out]; exact hct
     have hkl : c < ba.length := by rw [HKL.out]; exact hct
     have hbn := (Below.refl wr.heap.size wr).alloc (Nat.le_refl _) (.cells #[.int .i64 a0,.int .i64 a1,.int .i64 a2,.int .i64 a3] 53); have hbx := HBX.out.trans (hbn.mono HBX.out.size); have hbw := HB4.out.trans (hbx.mono HB4.out.size); have d1 := (hbw.cell (p := ⟨rb,ro + s,none⟩) LRB.out).trans (HRC.out s rv hrv); have d2 := (hbx.cell (p := ⟨ob,oo + c,none⟩) LOB.out).trans (HOC.out c ov hov); have d3 := (hbx.cell (p := ⟨kb,ko + c,none⟩) LKB.out).trans (HKC.out c kv hkv); have d4 : (wr.alloc (.cells #[.int .i64 a0,.int .i64 a1,.int .i64 a2,.int .i64 a3] 53)).cell? ⟨wr.heap.size,0,none⟩ = some (.int .i64 a0) := by simp
     have d5 : (wr.alloc (.cells #[.int .i64 a0,.int .i64 a1,.int .i64 a2,.int .i64 a3] 53)).cell? ⟨wr.heap.size,1,none⟩ = some (.int .i64 a1) := by simp
     have d6 : (wr.alloc (.cells #[.int .i64 a0,.int .i64 a1,.int .i64 a2,.int .i64 a3] 53)).cell? ⟨wr.heap.size,2,none⟩ = some (.int .i64 a2) := by simp
     have LTB : Hid (tb < w4.heap.size) := hid (Array.getElem?_eq_some_iff.1 HT4.out).1; have LGX : Hid (gx < w4.heap.size) := hid HX4.out.lt; have LRW : Hid (rb < w4.heap.size) := hid (Nat.lt_of_lt_of_le LRB.out HB4.out.size); have d7 : (wr.alloc (.cells #[.int .i64 a0,.int .i64 a1,.int .i64 a2,.int .i64 a3] 53)).cell? ⟨tb,0,none⟩ = some (.int .i64 r0) := by
      have h := (hbx.block tb LTB.out).trans HT4.out; simp [World.cell?,h]
     obtain ⟨d8,-,-,-,d9,-,-,-,-⟩ := (HX4.out.later hbx).cells; have HO5 := hid (Z06 HO.out hbn); have HBX5 := hid hbx; have LO := hid (World.ownsRow.lt HO.out); have LS : Hid (w4.heap.size ≤ wr.heap.size) := hid HBX.out.size; have hw1 : IntKind.i64.wrap (rv + ov) = rv + ov := by rw [IntKind.wrap_i64]; omega
     obtain ⟨mx,hmx⟩ : ∃ mx,mx = max (rv + ov) a1 := ⟨_,rfl⟩; have hmb : 0 ≤ mx ∧ mx ≤ 4000000000 := by omega
     have hw2 : IntKind.i64.wrap (mx + kv) = mx + kv := by rw [IntKind.wrap_i64]; omega
     have z1 : max (rv + ov) a1 = mx := hmx.symm; have z2 : (if rv + ov < a1 then a1 else rv + ov) = mx := by rw [hmx]; split <;> omega
     have z3 : (if a1 < rv + ov then rv + ov else a1) = mx := by rw [hmx]; split <;> omega
     have HMV : Hid (mayI x rd ou ba s c = (decide (a0 ≤ r0) && decide (a0 ≤ x.br) && decide (mx ≤ a2) && decide (mx + kv ≤ x.en))) := hid (by
      unfold mayI; simp only [List.getD,HQ.out,HQ2.out,hrv,hov,hkv,Option.getD_some]
      rw [← hmx])
     have HLB : Hid (∀ r,mayI x rd ou ba s c = r → (l ++ [r]).length = c + 1 ∧ ∀ j,j < c + 1 → (l ++ [r])[j]? = some (mayI x rd ou ba s j)) := hid fun r hr => ⟨by simp [HL.out.1],fun j hj => by
      by_cases e : j = c
      ·subst e
       rw [hr,List.getElem?_append_right (by have := HL.out.1; omega)]
       simp [HL.out.1]
      ·rw [List.getElem?_append_left (by have := HL.out.1; omega)]
       exact HL.out.2 j (by omega)⟩
     obtain ⟨y0,hy0,hyi,hyz,hys,hyb⟩ : ∃ i,Tryz.prog.info? 4 = some i ∧ i = i ∧ i.zero = some (.bool false) ∧ i.size = 1 ∧ i.bytes = 1 := by
      obtain ⟨i,h1,h2,h3,h4⟩ := info_parts Ze3; exact ⟨i,h1,rfl,h2,h3,h4⟩
     clear hq2 hA2 hqb hrv hov hkv hbn hbx hbw br1 br2 br3 hmx hyi; go_wp2_with fail
     obtain ⟨W5,hW5⟩ : ∃ z,z = wr.alloc (.cells #[.int .i64 a0,.int .i64 a1,.int .i64 a2,.int .i64 a3] 53) := ⟨_,rfl⟩; have LW5 : Hid (wr.heap.size < W5.heap.size) := hid (by rw [hW5]; simp)
     rw [← hW5] at d1 d2 d3 d4 d5 d6 d7 d8 d9 HO5 HBX5; refine wp_region_held_drew (S := (fun Wz => KeepB w4.heap.size wr.heap.size W5 Wz)) (by kernel_rfl) (by rw [← hW5]; exact fun _ _ => rfl) (fun hHeld => ?_)
     rw [← hW5] at hHeld ⊢; clear hW5 p0 p1 p2 p3 HO HBX; refine Z00 0 hHeld ?_; try simp only [Act.put,setIfInBounds_toArray,set_cons_zero,set_cons_succ,getElem_toArray,getElem_cons_zero]
     refine Z00 1 hHeld ?_; try simp only [Act.put,layT]
     refine Z00 2 hHeld ?_; try simp only [Act.put,layT]
     refine stpT 3 hHeld ?_ (y := fun Wz hWz => by have r1 := (Z02 (hWz rb (.inl LRW.out)) (ro + s)).trans d1; clear hWz; go_simp; (try with_reducible rfl))
     try simp only [Act.put,layT]
     refine Z00 4 hHeld ?_; try simp only [Act.put,layT]
     refine Z00 5 hHeld ?_; try simp only [Act.put,layT]
     refine Z00 6 hHeld ?_; try simp only [Act.put,layT]
     refine stpT 7 hHeld ?_ (y := fun Wz hWz => by have r1 := (Z02 (hWz ob (.inl LOB.out)) (oo + c)).trans d2; clear hWz; go_simp; (try with_reducible rfl))
     try simp only [Act.put,layT]
     refine Z00 8 hHeld ?_; try simp only [Act.put,layT]
     try simp only [hw1]
     refine Z00 9 hHeld ?_; try simp only [Act.put,layT]
     refine stpT 10 hHeld ?_ (y := fun Wz hWz => by have r1 := (Z02 (hWz wr.heap.size (.inr rfl)) 1).trans d5; clear hWz; go_simp; (try with_reducible rfl))
     try simp only [Act.put,layT]
     refine Z00 11 hHeld ?_; try simp only [Act.put,layT]
     try simp only [z1,z2,z3]
     refine Z00 12 hHeld ?_; try simp only [Act.put,layT]
     refine wpAnyH_done (by kernel_rfl) ?_ _
     clear hHeld z1 z2 z3 hw1; go_wp2_with fail
     by_cases t1 : a0 ≤ r0
     ·have hb1 : decide (a0 ≤ r0) = true := decide_eq_true t1
      clear t1; by_cases t2 : a0 ≤ x.br
      ·have hb2 : decide (a0 ≤ x.br) = true := decide_eq_true t2
       clear t2; by_cases t3 : mx ≤ a2
       ·have hb3 : decide (mx ≤ a2) = true := decide_eq_true t3
        clear t3; refine wp_region_held_drew (S := (fun Wz => KeepB w4.heap.size wr.heap.size W5 Wz)) (by kernel_rfl) (fun _ _ => rfl) (fun hHeld => ?_)
        refine Z00 0 hHeld ?_; try simp only [Act.put,setIfInBounds_toArray,set_cons_zero,set_cons_succ,getElem_toArray,getElem_cons_zero]
        refine Z00 1 hHeld ?_; try simp only [Act.put,layT]
        refine stpT 2 hHeld ?_ (y := fun Wz hWz => by have r1 := (Z02 (hWz wr.heap.size (.inr rfl)) 0).trans d4; clear hWz; go_simp; (try with_reducible rfl))
        try simp only [Act.put,layT]
        refine Z00 3 hHeld ?_; try simp only [Act.put,layT]
        refine stpT 4 hHeld ?_ (y := fun Wz hWz => by have r1 := (Z02 (hWz tb (.inl LTB.out)) 0).trans d7; clear hWz; go_simp; (try with_reducible rfl))
        try simp only [Act.put,layT]
        refine Z00 5 hHeld ?_; try simp only [Act.put,layT]
        try simp only [hb1]
        refine Z00 6 hHeld ?_; try simp only [Act.put,layT]
        refine Z00 7 hHeld ?_; try simp only [Act.put,layT]
        refine stpT 8 hHeld ?_ (y := fun Wz hWz => by have r1 := (Z02 (hWz wr.heap.size (.inr rfl)) 0).trans d4; clear hWz; go_simp; (try with_reducible rfl))
        try simp only [Act.put,layT]
        refine Z00 9 hHeld ?_; try simp only [Act.put,layT]
        refine Z00 10 hHeld ?_; try simp only [Act.put,layT]
        refine stpT 11 hHeld ?_ (y := fun Wz hWz => by have r1 := (Z02 (hWz gx (.inl LGX.out)) 4).trans d9; clear hWz; go_simp; (try with_reducible rfl))
        try simp only [Act.put,layT]
        refine Z00 12 hHeld ?_; try simp only [Act.put,layT]
        try simp only [hb2]
        refine Z00 13 hHeld ?_; try simp only [Act.put,layT]
        refine Z00 14 hHeld ?_; try simp only [Act.put,layT]
        refine Z00 15 hHeld ?_; try simp only [Act.put,layT]
        refine Z00 16 hHeld ?_; try simp only [Act.put,layT]
        refine stpT 17 hHeld ?_ (y := fun Wz hWz => by have r1 := (Z02 (hWz wr.heap.size (.inr rfl)) 2).trans d6; clear hWz; go_simp; (try with_reducible rfl))
        try simp only [Act.put,layT]
        refine Z00 18 hHeld ?_; try simp only [Act.put,layT]
        try simp only [hb3]
        refine Z00 19 hHeld ?_; try simp only [Act.put,layT]
        refine Z00 20 hHeld ?_; try simp only [Act.put,layT]
        refine Z00 21 hHeld ?_; try simp only [Act.put,layT]
        refine Z00 22 hHeld ?_; try simp only [Act.put,layT]
        refine Z00 23 hHeld ?_; try simp only [Act.put,layT]
        refine Z00 24 hHeld ?_; try simp only [Act.put,layT]
        refine stpT 25 hHeld ?_ (y := fun Wz hWz => by have r1 := (Z02 (hWz kb (.inl LKB.out)) (ko + c)).trans d3; clear hWz; go_simp; (try with_reducible rfl))
        try simp only [Act.put,layT]
        refine Z00 26 hHeld ?_; try simp only [Act.put,layT]
        refine Z00 27 hHeld ?_; try simp only [Act.put,layT]
        refine stpT 28 hHeld ?_ (y := fun Wz hWz => by have r1 := (Z02 (hWz gx (.inl LGX.out)) 0).trans d8; clear hWz; go_simp; (try with_reducible rfl))
        try simp only [Act.put,layT]
        refine Z00 29 hHeld ?_; try simp only [Act.put,layT]
        refine Z00 30 hHeld ?_; try simp only [Act.put,layT]
        have hbd := HBX5.out.drew.drew; have HO6 : Hid ((World.alloc W5.drew.drew (.cells #[.bool (decide (mx + kv ≤ x.en))] 4)).ownsRow w4.heap.size 4 1 (.slice la c lc) c (Z1i l)) := hid (Z06 HO5.out (((Below.refl W5.heap.size W5).drew.drew).alloc (Nat.le_refl _) _)); have HB6 := hid (hbd.alloc hbd.size (.cells #[.bool (decide (mx + kv ≤ x.en))] 4)); clear hbd; refine stpR 31 (fun K hK => ?_); go_simp; refine hK.out _ _ ?_ (fun hHeld => ?_)
        ·exact hHeld.below ((Below.refl _ _).alloc (Nat.le_refl _) _) HBX5.out.size LW5.out
        clear hK K; try simp only [Act.put,layT]
        refine stpR 32 (fun K hK => ?_); refine Z01 rfl (.tmp 49) (.tmp 80) 70 rfl w4.heap.size 4 y0 _ 1 1 Tryz.underlying70 hy0 hyz hys hyb (by decide) (.slice la c lc) c (Z1i l) rfl HO6.out ⟨W5.heap.size,0,none⟩ 1 [.bool (decide (mx + kv ≤ x.en))] rfl rfl (Z1b _ _ _ _ rfl) (Z5k _) (by unfold maxLen; omega) (by omega) HB6.out.size ?_
        intro g1 c1 u3 hown hgrow _; have HOW : Hid (u3.ownsRow w4.heap.size 4 1 (.slice (some ⟨g1,0,none⟩) (c + 1) c1) (c + 1) (Z1i (l ++ [(decide (mx + kv ≤ x.en))]))) := hid (by rw [Z31]; exact hown)
        have HBW := hid (HB6.out.grown hgrow HB6.out.size (fun k hk => (LO.out k hk).1)); have HKQ : Hid (KeepB w4.heap.size wr.heap.size W5 u3) := hid (hHeld.grown hgrow HB6.out.size (Nat.lt_of_lt_of_le LW5.out (by simp)) (fun b hb e => by have := LO.out b e; omega))
        have HLN := hid (HLB.out (decide (mx + kv ≤ x.en)) (by rw [HMV.out,hb1,hb2,hb3]; simp))
        clear hown hgrow HO6 HB6; refine hK.out _ _ ?_ (fun hHeld => ?_)
        ·exact HKQ.out
        clear hK K; try simp only [Act.put,layT]
        refine Z00 33 hHeld ?_; try simp only [Act.put,layT]
        refine wpAnyH_done (by kernel_rfl) ?_ _
        clear hHeld HKQ; go_wp2_with fail
        go_roundw
        case rel => exact ⟨c + 1,_,by go_num,by omega,HOW,HBW,HLN⟩
        case measure => simp [intOf]; omega
       ·have hb3 : decide (mx ≤ a2) = false := decide_eq_false t3
        clear t3; refine wp_region_held_drew (S := (fun Wz => KeepB w4.heap.size wr.heap.size W5 Wz)) (by kernel_rfl) (fun _ _ => rfl) (fun hHeld => ?_)
        refine Z00 0 hHeld ?_; try simp only [Act.put,setIfInBounds_toArray,set_cons_zero,set_cons_succ,getElem_toArray,getElem_cons_zero]
        refine Z00 1 hHeld ?_; try simp only [Act.put,layT]
        refine stpT 2 hHeld ?_ (y := fun Wz hWz => by have r1 := (Z02 (hWz wr.heap.size (.inr rfl)) 0).trans d4; clear hWz; go_simp; (try with_reducible rfl))
        try simp only [Act.put,layT]
        refine Z00 3 hHeld ?_; try simp only [Act.put,layT]
        refine stpT 4 hHeld ?_ (y := fun Wz hWz => by have r1 := (Z02 (hWz tb (.inl LTB.out)) 0).trans d7; clear hWz; go_simp; (try with_reducible rfl))
        try simp only [Act.put,layT]
        refine Z00 5 hHeld ?_; try simp only [Act.put,layT]
        try simp only [hb1]
        refine Z00 6 hHeld ?_; try simp only [Act.put,layT]
        refine Z00 7 hHeld ?_; try simp only [Act.put,layT]
        refine stpT 8 hHeld ?_ (y := fun Wz hWz => by have r1 := (Z02 (hWz wr.heap.size (.inr rfl)) 0).trans d4; clear hWz; go_simp; (try with_reducible rfl))
        try simp only [Act.put,layT]
        refine Z00 9 hHeld ?_; try simp only [Act.put,layT]
        refine Z00 10 hHeld ?_; try simp only [Act.put,layT]
        refine stpT 11 hHeld ?_ (y := fun Wz hWz => by have r1 := (Z02 (hWz gx (.inl LGX.out)) 4).trans d9; clear hWz; go_simp; (try with_reducible rfl))
        try simp only [Act.put,layT]
        refine Z00 12 hHeld ?_; try simp only [Act.put,layT]
        try simp only [hb2]
        refine Z00 13 hHeld ?_; try simp only [Act.put,layT]
        refine Z00 14 hHeld ?_; try simp only [Act.put,layT]
        refine Z00 15 hHeld ?_; try simp only [Act.put,layT]
        refine Z00 16 hHeld ?_; try simp only [Act.put,layT]
        refine stpT 17 hHeld ?_ (y := fun Wz hWz => by have r1 := (Z02 (hWz wr.heap.size (.inr rfl)) 2).trans d6; clear hWz; go_simp; (try with_reducible rfl))
        try simp only [Act.put,layT]
        refine Z00 18 hHeld ?_; try simp only [Act.put,layT]
        try simp only [hb3]
        refine Z00 19 hHeld ?_; try simp only [Act.put,layT]
        refine Z00 20 hHeld ?_; try simp only [Act.put,layT]
        refine wpAnyH_take (i := 21) (v := undef) rfl (by kernel_rfl) (by kernel_rfl) (by kernel_rfl) (fun _ _ _ h => h) (Or.inr ⟨by rfl,by rfl⟩) hHeld ?_
        try simp only [Act.put,layT]
        refine wpAnyH_take (i := 22) (v := undef) rfl (by kernel_rfl) (by kernel_rfl) (by kernel_rfl) (fun _ _ _ h => h) (Or.inr ⟨by rfl,by rfl⟩) hHeld ?_
        try simp only [Act.put,layT]
        refine wpAnyH_take (i := 23) (v := undef) rfl (by kernel_rfl) (by kernel_rfl) (by kernel_rfl) (fun _ _ _ h => h) (Or.inr ⟨by rfl,by rfl⟩) hHeld ?_
        try simp only [Act.put,layT]
        refine wpAnyH_take (i := 24) (v := undef) rfl (by kernel_rfl) (by kernel_rfl) (by kernel_rfl) (fun _ _ _ h => h) (Or.inr ⟨by rfl,by rfl⟩) hHeld ?_
        try simp only [Act.put,layT]
        refine wpAnyH_take (i := 25) (v := undef) rfl (by kernel_rfl) (by kernel_rfl) (by kernel_rfl) (fun _ _ _ h => h) (Or.inr ⟨by rfl,by rfl⟩) hHeld ?_
        try simp only [Act.put,layT]
        refine wpAnyH_take (i := 26) (v := undef) rfl (by kernel_rfl) (by kernel_rfl) (by kernel_rfl) (fun _ _ _ h => h) (Or.inr ⟨by rfl,by rfl⟩) hHeld ?_
        try simp only [Act.put,layT]
        refine wpAnyH_take (i := 27) (v := undef) rfl (by kernel_rfl) (by kernel_rfl) (by kernel_rfl) (fun _ _ _ h => h) (Or.inr ⟨by rfl,by rfl⟩) hHeld ?_
        try simp only [Act.put,layT]
        refine wpAnyH_take (i := 28) (v := undef) rfl (by kernel_rfl) (by kernel_rfl) (by kernel_rfl) (fun _ _ _ h => h) (Or.inr ⟨by rfl,by rfl⟩) hHeld ?_
        try simp only [Act.put,layT]
        refine wpAnyH_take (i := 29) (v := undef) rfl (by kernel_rfl) (by kernel_rfl) (by kernel_rfl) (fun _ _ _ h => h) (Or.inr ⟨by rfl,by rfl⟩) hHeld ?_
        try simp only [Act.put,layT]
        refine Z00 30 hHeld ?_; try simp only [Act.put,layT]
        have hbd := HBX5.out.drew.drew; have HO6 : Hid ((World.alloc W5.drew.drew (.cells #[.bool false] 4)).ownsRow w4.heap.size 4 1 (.slice la c lc) c (Z1i l)) := hid (Z06 HO5.out (((Below.refl W5.heap.size W5).drew.drew).alloc (Nat.le_refl _) _)); have HB6 := hid (hbd.alloc hbd.size (.cells #[.bool false] 4)); clear hbd; refine stpR 31 (fun K hK => ?_); go_simp; refine hK.out _ _ ?_ (fun hHeld => ?_)
        ·exact hHeld.below ((Below.refl _ _).alloc (Nat.le_refl _) _) HBX5.out.size LW5.out
        clear hK K; try simp only [Act.put,layT]
        refine stpR 32 (fun K hK => ?_); refine Z01 rfl (.tmp 49) (.tmp 80) 70 rfl w4.heap.size 4 y0 _ 1 1 Tryz.underlying70 hy0 hyz hys hyb (by decide) (.slice la c lc) c (Z1i l) rfl HO6.out ⟨W5.heap.size,0,none⟩ 1 [.bool false] rfl rfl (Z1b _ _ _ _ rfl) (Z5k _) (by unfold maxLen; omega) (by omega) HB6.out.size ?_
        intro g1 c1 u3 hown hgrow _; have HOW : Hid (u3.ownsRow w4.heap.size 4 1 (.slice (some ⟨g1,0,none⟩) (c + 1) c1) (c + 1) (Z1i (l ++ [false]))) := hid (by rw [Z31]; exact hown)
        have HBW := hid (HB6.out.grown hgrow HB6.out.size (fun k hk => (LO.out k hk).1)); have HKQ : Hid (KeepB w4.heap.size wr.heap.size W5 u3) := hid (hHeld.grown hgrow HB6.out.size (Nat.lt_of_lt_of_le LW5.out (by simp)) (fun b hb e => by have := LO.out b e; omega))
        have HLN := hid (HLB.out false (by rw [HMV.out,hb1,hb2,hb3]; simp))
        clear hown hgrow HO6 HB6; refine hK.out _ _ ?_ (fun hHeld => ?_)
        ·exact HKQ.out
        clear hK K; try simp only [Act.put,layT]
        refine Z00 33 hHeld ?_; try simp only [Act.put,layT]
        refine wpAnyH_done (by kernel_rfl) ?_ _
        clear hHeld HKQ; go_wp2_with fail
        go_roundw
        case rel => exact ⟨c + 1,_,by go_num,by omega,HOW,HBW,HLN⟩
        case measure => simp [intOf]; omega
      ·have hb2 : decide (a0 ≤ x.br) = false := decide_eq_false t2
       clear t2; refine wp_region_held_drew (S := (fun Wz => KeepB w4.heap.size wr.heap.size W5 Wz)) (by kernel_rfl) (fun _ _ => rfl) (fun hHeld => ?_)
       refine Z00 0 hHeld ?_; try simp only [Act.put,setIfInBounds_toArray,set_cons_zero,set_cons_succ,getElem_toArray,getElem_cons_zero]
       refine Z00 1 hHeld ?_; try simp only [Act.put,layT]
       refine stpT 2 hHeld ?_ (y := fun Wz hWz => by have r1 := (Z02 (hWz wr.heap.size (.inr rfl)) 0).trans d4; clear hWz; go_simp; (try with_reducible rfl))
       try simp only [Act.put,layT]
       refine Z00 3 hHeld ?_; try simp only [Act.put,layT]
       refine stpT 4 hHeld ?_ (y := fun Wz hWz => by have r1 := (Z02 (hWz tb (.inl LTB.out)) 0).trans d7; clear hWz; go_simp; (try with_reducible rfl))
       try simp only [Act.put,layT]
       refine Z00 5 hHeld ?_; try simp only [Act.put,layT]
       try simp only [hb1]
       refine Z00 6 hHeld ?_; try simp only [Act.put,layT]
       refine Z00 7 hHeld ?_; try simp only [Act.put,layT]
       refine stpT 8 hHeld ?_ (y := fun Wz hWz => by have r1 := (Z02 (hWz wr.heap.size (.inr rfl)) 0).trans d4; clear hWz; go_simp; (try with_reducible rfl))
       try simp only [Act.put,layT]
       refine Z00 9 hHeld ?_; try simp only [Act.put,layT]
       refine Z00 10 hHeld ?_; try simp only [Act.put,layT]
       refine stpT 11 hHeld ?_ (y := fun Wz hWz => by have r1 := (Z02 (hWz gx (.inl LGX.out)) 4).trans d9; clear hWz; go_simp; (try with_reducible rfl))
       try simp only [Act.put,layT]
       refine Z00 12 hHeld ?_; try simp only [Act.put,layT]
       try simp only [hb2]
       refine Z00 13 hHeld ?_; try simp only [Act.put,layT]
       refine Z00 14 hHeld ?_; try simp only [Act.put,layT]
       refine wpAnyH_take (i := 15) (v := undef) rfl (by kernel_rfl) (by kernel_rfl) (by kernel_rfl) (fun _ _ _ h => h) (Or.inr ⟨by rfl,by rfl⟩) hHeld ?_
       try simp only [Act.put,layT]
       refine wpAnyH_take (i := 16) (v := undef) rfl (by kernel_rfl) (by kernel_rfl) (by kernel_rfl) (fun _ _ _ h => h) (Or.inr ⟨by rfl,by rfl⟩) hHeld ?_
       try simp only [Act.put,layT]
       refine wpAnyH_take (i := 17) (v := undef) rfl (by kernel_rfl) (by kernel_rfl) (by kernel_rfl) (fun _ _ _ h => h) (Or.inr ⟨by rfl,by rfl⟩) hHeld ?_
       try simp only [Act.put,layT]
       refine wpAnyH_take (i := 18) (v := undef) rfl (by kernel_rfl) (by kernel_rfl) (by kernel_rfl) (fun _ _ _ h => h) (Or.inr ⟨by rfl,by rfl⟩) hHeld ?_
       try simp only [Act.put,layT]
       refine Z00 19 hHeld ?_; try simp only [Act.put,layT]
       refine Z00 20 hHeld ?_; try simp only [Act.put,layT]
       refine wpAnyH_take (i := 21) (v := undef) rfl (by kernel_rfl) (by kernel_rfl) (by kernel_rfl) (fun _ _ _ h => h) (Or.inr ⟨by rfl,by rfl⟩) hHeld ?_
       try simp only [Act.put,layT]
       refine wpAnyH_take (i := 22) (v := undef) rfl (by kernel_rfl) (by kernel_rfl) (by kernel_rfl) (fun _ _ _ h => h) (Or.inr ⟨by rfl,by rfl⟩) hHeld ?_
       try simp only [Act.put,layT]
       refine wpAnyH_take (i := 23) (v := undef) rfl (by kernel_rfl) (by kernel_rfl) (by kernel_rfl) (fun _ _ _ h => h) (Or.inr ⟨by rfl,by rfl⟩) hHeld ?_
       try simp only [Act.put,layT]
       refine wpAnyH_take (i := 24) (v := undef) rfl (by kernel_rfl) (by kernel_rfl) (by kernel_rfl) (fun _ _ _ h => h) (Or.inr ⟨by rfl,by rfl⟩) hHeld ?_
       try simp only [Act.put,layT]
       refine wpAnyH_take (i := 25) (v := undef) rfl (by kernel_rfl) (by kernel_rfl) (by kernel_rfl) (fun _ _ _ h => h) (Or.inr ⟨by rfl,by rfl⟩) hHeld ?_
       try simp only [Act.put,layT]
       refine wpAnyH_take (i := 26) (v := undef) rfl (by kernel_rfl) (by kernel_rfl) (by kernel_rfl) (fun _ _ _ h => h) (Or.inr ⟨by rfl,by rfl⟩) hHeld ?_
       try simp only [Act.put,layT]
       refine wpAnyH_take (i := 27) (v := undef) rfl (by kernel_rfl) (by kernel_rfl) (by kernel_rfl) (fun _ _ _ h => h) (Or.inr ⟨by rfl,by rfl⟩) hHeld ?_
       try simp only [Act.put,layT]
       refine wpAnyH_take (i := 28) (v := undef) rfl (by kernel_rfl) (by kernel_rfl) (by kernel_rfl) (fun _ _ _ h => h) (Or.inr ⟨by rfl,by rfl⟩) hHeld ?_
       try simp only [Act.put,layT]
       refine wpAnyH_take (i := 29) (v := undef) rfl (by kernel_rfl) (by kernel_rfl) (by kernel_rfl) (fun _ _ _ h => h) (Or.inr ⟨by rfl,by rfl⟩) hHeld ?_
       try simp only [Act.put,layT]
       refine Z00 30 hHeld ?_; try simp only [Act.put,layT]
       have hbd := HBX5.out.drew.drew; have HO6 : Hid ((World.alloc W5.drew.drew (.cells #[.bool false] 4)).ownsRow w4.heap.size 4 1 (.slice la c lc) c (Z1i l)) := hid (Z06 HO5.out (((Below.refl W5.heap.size W5).drew.drew).alloc (Nat.le_refl _) _)); have HB6 := hid (hbd.alloc hbd.size (.cells #[.bool false] 4)); clear hbd; refine stpR 31 (fun K hK => ?_); go_simp; refine hK.out _ _ ?_ (fun hHeld => ?_)
       ·exact hHeld.below ((Below.refl _ _).alloc (Nat.le_refl _) _) HBX5.out.size LW5.out
       clear hK K; try simp only [Act.put,layT]
       refine stpR 32 (fun K hK => ?_); refine Z01 rfl (.tmp 49) (.tmp 80) 70 rfl w4.heap.size 4 y0 _ 1 1 Tryz.underlying70 hy0 hyz hys hyb (by decide) (.slice la c lc) c (Z1i l) rfl HO6.out ⟨W5.heap.size,0,none⟩ 1 [.bool false] rfl rfl (Z1b _ _ _ _ rfl) (Z5k _) (by unfold maxLen; omega) (by omega) HB6.out.size ?_
       intro g1 c1 u3 hown hgrow _; have HOW : Hid (u3.ownsRow w4.heap.size 4 1 (.slice (some ⟨g1,0,none⟩) (c + 1) c1) (c + 1) (Z1i (l ++ [false]))) := hid (by rw [Z31]; exact hown)
       have HBW := hid (HB6.out.grown hgrow HB6.out.size (fun k hk => (LO.out k hk).1)); have HKQ : Hid (KeepB w4.heap.size wr.heap.size W5 u3) := hid (hHeld.grown hgrow HB6.out.size (Nat.lt_of_lt_of_le LW5.out (by simp)) (fun b hb e => by have := LO.out b e; omega))
       have HLN := hid (HLB.out false (by rw [HMV.out,hb1,hb2]; simp))
       clear hown hgrow HO6 HB6; refine hK.out _ _ ?_ (fun hHeld => ?_)
       ·exact HKQ.out
       clear hK K; try simp only [Act.put,layT]
       refine Z00 33 hHeld ?_; try simp only [Act.put,layT]
       refine wpAnyH_done (by kernel_rfl) ?_ _
       clear hHeld HKQ; go_wp2_with fail
       go_roundw
       case rel => exact ⟨c + 1,_,by go_num,by omega,HOW,HBW,HLN⟩
       case measure => simp [intOf]; omega
     ·have hb1 : decide (a0 ≤ r0) = false := decide_eq_false t1
      clear t1; refine wp_region_held_drew (S := (fun Wz => KeepB w4.heap.size wr.heap.size W5 Wz)) (by kernel_rfl) (fun _ _ => rfl) (fun hHeld => ?_)
      refine Z00 0 hHeld ?_; try simp only [Act.put,setIfInBounds_toArray,set_cons_zero,set_cons_succ,getElem_toArray,getElem_cons_zero]
      refine Z00 1 hHeld ?_; try simp only [Act.put,layT]
      refine stpT 2 hHeld ?_ (y := fun Wz hWz => by have r1 := (Z02 (hWz wr.heap.size (.inr rfl)) 0).trans d4; clear hWz; go_simp; (try with_reducible rfl))
      try simp only [Act.put,layT]
      refine Z00 3 hHeld ?_; try simp only [Act.put,layT]
      refine stpT 4 hHeld ?_ (y := fun Wz hWz => by have r1 := (Z02 (hWz tb (.inl LTB.out)) 0).trans d7; clear hWz; go_simp; (try with_reducible rfl))
      try simp only [Act.put,layT]
      refine Z00 5 hHeld ?_; try simp only [Act.put,layT]
      try simp only [hb1]
      refine Z00 6 hHeld ?_; try simp only [Act.put,layT]
      refine wpAnyH_take (i := 7) (v := undef) rfl (by kernel_rfl) (by kernel_rfl) (by kernel_rfl) (fun _ _ _ h => h) (Or.inr ⟨by rfl,by rfl⟩) hHeld ?_
      try simp only [Act.put,layT]
      refine wpAnyH_take (i := 8) (v := undef) rfl (by kernel_rfl) (by kernel_rfl) (by kernel_rfl) (fun _ _ _ h => h) (Or.inr ⟨by rfl,by rfl⟩) hHeld ?_
      try simp only [Act.put,layT]
      refine wpAnyH_take (i := 9) (v := undef) rfl (by kernel_rfl) (by kernel_rfl) (by kernel_rfl) (fun _ _ _ h => h) (Or.inr ⟨by rfl,by rfl⟩) hHeld ?_
      try simp only [Act.put,layT]
      refine wpAnyH_take (i := 10) (v := undef) rfl (by kernel_rfl) (by kernel_rfl) (by kernel_rfl) (fun _ _ _ h => h) (Or.inr ⟨by rfl,by rfl⟩) hHeld ?_
      try simp only [Act.put,layT]
      refine wpAnyH_take (i := 11) (v := undef) rfl (by kernel_rfl) (by kernel_rfl) (by kernel_rfl) (fun _ _ _ h => h) (Or.inr ⟨by rfl,by rfl⟩) hHeld ?_
      try simp only [Act.put,layT]
      refine wpAnyH_take (i := 12) (v := undef) rfl (by kernel_rfl) (by kernel_rfl) (by kernel_rfl) (fun _ _ _ h => h) (Or.inr ⟨by rfl,by rfl⟩) hHeld ?_
      try simp only [Act.put,layT]
      refine Z00 13 hHeld ?_; try simp only [Act.put,layT]
      refine Z00 14 hHeld ?_; try simp only [Act.put,layT]
      refine wpAnyH_take (i := 15) (v := undef) rfl (by kernel_rfl) (by kernel_rfl) (by kernel_rfl) (fun _ _ _ h => h) (Or.inr ⟨by rfl,by rfl⟩) hHeld ?_
      try simp only [Act.put,layT]
      refine wpAnyH_take (i := 16) (v := undef) rfl (by kernel_rfl) (by kernel_rfl) (by kernel_rfl) (fun _ _ _ h => h) (Or.inr ⟨by rfl,by rfl⟩) hHeld ?_
      try simp only [Act.put,layT]
      refine wpAnyH_take (i := 17) (v := undef) rfl (by kernel_rfl) (by kernel_rfl) (by kernel_rfl) (fun _ _ _ h => h) (Or.inr ⟨by rfl,by rfl⟩) hHeld ?_
      try simp only [Act.put,layT]
      refine wpAnyH_take (i := 18) (v := undef) rfl (by kernel_rfl) (by kernel_rfl) (by kernel_rfl) (fun _ _ _ h => h) (Or.inr ⟨by rfl,by rfl⟩) hHeld ?_
      try simp only [Act.put,layT]
      refine Z00 19 hHeld ?_; try simp only [Act.put,layT]
      refine Z00 20 hHeld ?_; try simp only [Act.put,layT]
      refine wpAnyH_take (i := 21) (v := undef) rfl (by kernel_rfl) (by kernel_rfl) (by kernel_rfl) (fun _ _ _ h => h) (Or.inr ⟨by rfl,by rfl⟩) hHeld ?_
      try simp only [Act.put,layT]
      refine wpAnyH_take (i := 22) (v := undef) rfl (by kernel_rfl) (by kernel_rfl) (by kernel_rfl) (fun _ _ _ h => h) (Or.inr ⟨by rfl,by rfl⟩) hHeld ?_
      try simp only [Act.put,layT]
      refine wpAnyH_take (i := 23) (v := undef) rfl (by kernel_rfl) (by kernel_rfl) (by kernel_rfl) (fun _ _ _ h => h) (Or.inr ⟨by rfl,by rfl⟩) hHeld ?_
      try simp only [Act.put,layT]
      refine wpAnyH_take (i := 24) (v := undef) rfl (by kernel_rfl) (by kernel_rfl) (by kernel_rfl) (fun _ _ _ h => h) (Or.inr ⟨by rfl,by rfl⟩) hHeld ?_
      try simp only [Act.put,layT]
      refine wpAnyH_take (i := 25) (v := undef) rfl (by kernel_rfl) (by kernel_rfl) (by kernel_rfl) (fun _ _ _ h => h) (Or.inr ⟨by rfl,by rfl⟩) hHeld ?_
      try simp only [Act.put,layT]
      refine wpAnyH_take (i := 26) (v := undef) rfl (by kernel_rfl) (by kernel_rfl) (by kernel_rfl) (fun _ _ _ h => h) (Or.inr ⟨by rfl,by rfl⟩) hHeld ?_
      try simp only [Act.put,layT]
      refine wpAnyH_take (i := 27) (v := undef) rfl (by kernel_rfl) (by kernel_rfl) (by kernel_rfl) (fun _ _ _ h => h) (Or.inr ⟨by rfl,by rfl⟩) hHeld ?_
      try simp only [Act.put,layT]
      refine wpAnyH_take (i := 28) (v := undef) rfl (by kernel_rfl) (by kernel_rfl) (by kernel_rfl) (fun _ _ _ h => h) (Or.inr ⟨by rfl,by rfl⟩) hHeld ?_
      try simp only [Act.put,layT]
      refine wpAnyH_take (i := 29) (v := undef) rfl (by kernel_rfl) (by kernel_rfl) (by kernel_rfl) (fun _ _ _ h => h) (Or.inr ⟨by rfl,by rfl⟩) hHeld ?_
      try simp only [Act.put,layT]
      refine Z00 30 hHeld ?_; try simp only [Act.put,layT]
      have hbd := HBX5.out.drew.drew; have HO6 : Hid ((World.alloc W5.drew.drew (.cells #[.bool false] 4)).ownsRow w4.heap.size 4 1 (.slice la c lc) c (Z1i l)) := hid (Z06 HO5.out (((Below.refl W5.heap.size W5).drew.drew).alloc (Nat.le_refl _) _)); have HB6 := hid (hbd.alloc hbd.size (.cells #[.bool false] 4)); clear hbd; refine stpR 31 (fun K hK => ?_); go_simp; refine hK.out _ _ ?_ (fun hHeld => ?_)
      ·exact hHeld.below ((Below.refl _ _).alloc (Nat.le_refl _) _) HBX5.out.size LW5.out
      clear hK K; try simp only [Act.put,layT]
      refine stpR 32 (fun K hK => ?_); refine Z01 rfl (.tmp 49) (.tmp 80) 70 rfl w4.heap.size 4 y0 _ 1 1 Tryz.underlying70 hy0 hyz hys hyb (by decide) (.slice la c lc) c (Z1i l) rfl HO6.out ⟨W5.heap.size,0,none⟩ 1 [.bool false] rfl rfl (Z1b _ _ _ _ rfl) (Z5k _) (by unfold maxLen; omega) (by omega) HB6.out.size ?_
      intro g1 c1 u3 hown hgrow _; have HOW : Hid (u3.ownsRow w4.heap.size 4 1 (.slice (some ⟨g1,0,none⟩) (c + 1) c1) (c + 1) (Z1i (l ++ [false]))) := hid (by rw [Z31]; exact hown)
      have HBW := hid (HB6.out.grown hgrow HB6.out.size (fun k hk => (LO.out k hk).1)); have HKQ : Hid (KeepB w4.heap.size wr.heap.size W5 u3) := hid (hHeld.grown hgrow HB6.out.size (Nat.lt_of_lt_of_le LW5.out (by simp)) (fun b hb e => by have := LO.out b e; omega))
      have HLN := hid (HLB.out false (by rw [HMV.out,hb1]; simp))
      clear hown hgrow HO6 HB6; refine hK.out _ _ ?_ (fun hHeld => ?_)
      ·exact HKQ.out
      clear hK K; try simp only [Act.put,layT]
      refine Z00 33 hHeld ?_; try simp only [Act.put,layT]
      refine wpAnyH_done (by kernel_rfl) ?_ _
      clear hHeld HKQ; go_wp2_with fail
      go_roundw
      case rel => exact ⟨c + 1,_,by go_num,by omega,HOW,HBW,HLN⟩
      case measure => simp [intOf]; omega
    ·obtain rfl : c = x.cus.length := by omega
     obtain ⟨i0,hi0,hz0,hz1,hz2⟩ := info_parts Zax; obtain ⟨p,hp,hq⟩ := HP4.out; have hrow : BRow w2.heap.size wr (.slice la x.cus.length lc) x.cus.length (fun j => l.getD j false) := by
      have h := HO.out; rw [← HL.out.1] at h; have h2 := BRow.grew h (by have := HL.out.1; omega)
      rw [HL.out.1] at h2; exact h2.rebase HB4.out.size
     have hba := (Below.refl wr.heap.size wr).alloc (Nat.le_refl _) (.cells #[.slice la x.cus.length lc] 70); obtain ⟨vs,hown,hpush⟩ := ((hp.later HBX.out).later hba).push (hrow.kept fun b hb => hba.block b (hrow.lt b hb).2); have HPU := hid hpush; have HPQ := hid hq; have HOV := hid hown; have HXW := hid ((HX4.out.later HBX.out).later hba); have HBW := hid ((HB4.out.trans (HBX.out.mono HB4.out.size)).trans (hba.mono (HB4.out.trans (HBX.out.mono HB4.out.size)).size)); have hsz : w2.heap.size ≤ wr.heap.size := (HB4.out.trans (HBX.out.mono HB4.out.size)).size; have hs12 : s ≤ 12 := by omega
     clear hp hq hrow hba hown hpush HO; go_wp2_with (at_builtin; refine wpList_append_own _ rfl (.tmp 83) (.tmp 85) 68 rfl w2.heap.size 70 i0 _ 1 24 Tryz.underlying68 hi0 hz0 hz1 hz2 (by decide) (by decide) (.slice aa s ac) s vs rfl HOV.out ⟨wr.heap.size,0,none⟩ 1 1 [.slice la x.cus.length lc] rfl rfl (Z1b _ _ _ _ rfl) (by intro u hu; simp at hu; subst hu; rfl) (by unfold maxLen; omega) (by omega) (by simp; omega) ?_; intro v' w9 hown hgrow _; have HOW := hid hown; have HGR := hid hgrow; clear hown hgrow)
     obtain ⟨g4,cap4,rfl,_,_,_,_⟩ := Z0x HOW.out (by omega)
     have hpn := HPU.out g4 cap4 w9 HOW.out HGR.out; have HX9 : Hid (XBox w w9 gx A x) := hid ⟨HXW.out.below.grown HGR.out HXW.out.below.size (fun k hk => Nat.le_trans HX2.out.below.size (World.ownsRow.lt HOV.out k hk).1),HXW.out.ge,(HGR.out.block gx HXW.out.lt (fun e => Zoa HOV.out HXW.out.blk (by decide) e.symm)).trans HXW.out.blk⟩
     have HB9 := hid (HBW.out.grown HGR.out (by simp; omega) (fun k hk => (World.ownsRow.lt HOV.out k hk).1))
     have HP9 : Hid (∃ p,BRs w2.heap.size w9 (.slice (some ⟨g4,0,none⟩) (s + 1) cap4) (s + 1) x.cus.length p ∧ ∀ s2,s2 < s + 1 → ∃ ou ba : List Int,OutOf x s2 ou ∧ BackOf x s2 ba ∧ ∀ c,c < x.cus.length → p s2 c = mayI x rd ou ba s2 c) := hid ⟨_,hpn,fun s2 h => by
      by_cases e : s2 = s
      ·subst e
       refine ⟨ou,ba,HOU.out,HBK.out,fun c h2 => ?_⟩; simp only [if_true]
       simp [List.getD,HL.out.2 c h2]
      ·simp only [e,if_false]
       exact HPQ.out s2 (by omega)⟩
     clear hpn; go_roundw
     case rel => exact ⟨s + 1,by go_num,by omega,HX9,HB9,HP9⟩
     case measure => simp [intOf]; omega
  ·obtain rfl : s = x.sats.length := by omega
   go_wp2_with fail
   go_ret
   obtain ⟨p,h1,h2⟩ := HP.out; exact ⟨_,p,rfl,⟨_,h1⟩,⟨rd,HRO.out,h2⟩,HX.out.below⟩
end Go.Proofs.YtfkommjlmolniaaGreatDoor
end
