/- Joined: WSend, WTake. -/
import Derived.Test.YtfkommjlmolniaaGreatDoorHd6
import Derived.Deep.Cut
import Derived.Deep.LoopGhost
set_option linter.unusedVariables false
section

namespace Go.Proofs.YtfkommjlmolniaaGreatDoor
set_option maxHeartbeats 16000000
set_option maxRecDepth 100000
open Go.Lib (hid)
open Go.RowKit
variable {w wr w2 w4 : World} {E : Env} {fl st st2 : Nat → Int} {hi nx hi2 nx2 : Nat → Nat} {mn mn2 : Nat → Int} {fv : Nat → Value} {Q : Nat → List Nat} {top m : Int} {N g c u v k : Nat} {a : La}
theorem Zea (H : Wk E fl st hi nx mn fv Q top wr) (hn : E.Net) (hb : hi v < 2 * E.N) (hq : Que E st Q top u) (hv : v < E.N) (hvu : v ≠ u) (hz : st v = 0) (he : ∀ i,i ≠ u → i ≠ v → st2 i = st i) (hp : v ≠ E.s → 0 < st2 v) :
  Calls Tryz.prog 131 #[.pointer (some ⟨E.p,0,none⟩),.int .i64 (v : Int)] wr fun e w' => e = .returned (.tuple #[]) ∧ Below E.C wr w' ∧
   ∃ fv2 Q2 top2,Wk E fl st hi nx mn fv2 Q2 top2 w' ∧ Que E st2 Q2 top2 u ∧ Aside E wr w' (fv (hi v)) := by
 by_cases h1 : v = E.s ∨ v = E.t
 ·refine (Zns H v h1).mono ?_
  rintro e w' ⟨rfl,hb2⟩; have hC : E.C ≤ wr.heap.size := by have := H.size; have := H.ord.cp; have := H.ord.dp; omega
  exact ⟨rfl,hb2.mono hC,_,_,_,H.later hb2,hq.more he hp (by rcases h1 with h1 | h1 <;> simp [h1]),fun b _ hb3 _ => hb2.block b hb3⟩
 ·refine (Zly H v hv hb hn.nm (fun e => h1 (.inl e)) (fun e => h1 (.inr e)) (Nat.le_trans (hq.len hb) hn.nm)).mono ?_
  rintro e w' ⟨rfl,hb2,⟨fv2,hk⟩,ha⟩; exact ⟨rfl,hb2,fv2,_,_,hk,hq.fill he (hp (fun e => h1 (.inl e))) hv hz (fun e => h1 (.inl e)) (fun e => h1 (.inr e)) hvu hb,ha⟩
theorem Wk.far (H : Wk E fl st hi nx mn fv Q top wr) {h : Nat} (hh : h < 2 * E.N) : (fv h).ownBlock ≠ some wr.heap.size := fun e => by
 have := (World.ownsRow.lt (H.rows h hh) _ e).2; omega
def LBox (w : World) (g : Nat) (k v : Nat) (b : Bool) : Prop := w.heap[g]? = some (.cells #[.int .i64 (k : Int),.int .i64 (v : Int),.bool b] 140 (0,0))
theorem LBox.cells {b : Bool} (h : LBox w g k v b) : w.cell? ⟨g,0,none⟩ = some (.int .i64 (k : Int)) ∧ w.cell? ⟨g,1,none⟩ = some (.int .i64 (v : Int)) ∧ w.cell? ⟨g,2,none⟩ = some (.bool b) := by
 unfold LBox at h; simp [World.cell?,h]
theorem LBox.set_ {b : Bool} (h : LBox w g k v b) {c i : Nat} (hc : g ≠ c) (u : Value) : LBox (w.setCell ⟨c,i,none⟩ u) g k v b := (heap_setCell_other _ _ _ _ hc).trans h
theorem Z90 (H : Wk E fl (exc E fl) hi nx mn fv Q top wr) (hn : E.Net) (hc : Caps E fl) (hu : u < E.N) (b : Bool) (ha : (k,v,b) ∈ E.L u) (hb : hi v < 2 * E.N) (h0 : 0 < m) (hm : m ≤ lft E.l fl (k,v,b)) (hq : Que E (exc E fl) Q top u) (hv : v = E.s ∨ 0 ≤ exc E fl v) :
  Calls Tryz.prog 111 #[.pointer (some ⟨E.p,0,none⟩),.int .i64 (u : Int),.agg #[.int .i64 (k : Int),.int .i64 (v : Int),.bool b],.int .i64 m] wr fun e w' => e = .returned (.tuple #[]) ∧ Below E.C wr w' ∧
   ∃ fv2 Q2 top2,Wk E (push fl (k,v,b) m) (exc E (push fl (k,v,b) m)) hi nx mn fv2 Q2 top2 w' ∧ Que E (exc E (push fl (k,v,b) m)) Q2 top2 u ∧ Aside E wr w' (fv (hi v)) := by
 obtain ⟨x,hx,huv,hvN,hk,_⟩ := Z2z hn.lanes hu ha; simp only at hx huv hvN hk
 have hkl : k < E.len := by have := H.pipes.1; omega
 have hcx := hc k x hx; have hpu := fun i => Zlk (fl := fl) (m := m) hn hu ha i; simp only at hpu
 have heq : ∀ i,i ≠ u → i ≠ v → exc E (push fl (k,v,b) m) i = exc E fl i := fun i h1 h2 => by rw [hpu,if_neg h1,if_neg h2]; omega
 have hpv : exc E (push fl (k,v,b) m) v = exc E fl v + m := by rw [hpu,if_pos rfl,if_neg (fun e => huv e.symm)]; omega
 have hpuu : exc E (push fl (k,v,b) m) u = exc E fl u - m := by rw [hpu,if_pos rfl,if_neg huv]; omega
 have hp0 : v ≠ E.s → 0 < exc E (push fl (k,v,b) m) v := fun h1 => by
  rw [hpv]; rcases hv with hv | hv
  ·exact absurd hv h1
  ·omega
 have hbu := Zau hc hn.lm u; have hbv := Zau hc hn.lm v; have hmb : m ≤ 1099511627776 := by
  have : lft E.l fl (k,v,b) ≤ 1099511627776 := by
   simp only [lft,Z3f hx]
   split <;> omega
  omega
 have HST : Hid (∀ i,i < E.N → (fun j => if j = v then exc E fl v + m else (fun j => if j = u then exc E fl u - m else exc E fl j) j) i = exc E (push fl (k,v,b) m) i) := hid (fun i _ => by
  by_cases e1 : i = v
  ·subst e1; simp only [if_true]; exact hpv.symm
  ·by_cases e2 : i = u
   ·subst e2; simp only [e1,if_true,if_false]; exact hpuu.symm
   ·simp only [e1,e2,if_false]; exact (heq i e2 e1).symm)
 obtain ⟨pu,hpu2⟩ : ∃ z,exc E fl u = z := ⟨_,rfl⟩; obtain ⟨pv,hpv2⟩ : ∃ z,exc E fl v = z := ⟨_,rfl⟩; obtain ⟨fk,hfk⟩ : ∃ z,fl k = z := ⟨_,rfl⟩; have e1 : IntKind.i64.wrap (pu - m) = pu - m := by rw [IntKind.wrap_i64]; omega
 have e2 : IntKind.i64.wrap (pv + m) = pv + m := by rw [IntKind.wrap_i64]; omega
 have e3 : IntKind.i64.wrap (fk + m) = fk + m := by rw [IntKind.wrap_i64]; omega
 have e4 : IntKind.i64.wrap (fk + -m) = fk + -m := by rw [IntKind.wrap_i64]; omega
 have e5 : IntKind.i64.wrap (-m) = -m := by rw [IntKind.wrap_i64]; omega
 have HQM : Hid (¬ pv = 0 → Que E (exc E (push fl (k,v,b) m)) Q top u) := hid (fun hz => hq.more heq hp0 (by
  rcases hv with hv | hv
  ·exact .inl hv
  ·exact .inr (.inr (by omega))))
 have HB1 := hid ((Below.refl wr.heap.size wr).alloc (Nat.le_refl _) (.cells #[.int .i64 (k : Int),.int .i64 (v : Int),.bool b] 140)); have HS : Hid (E.C ≤ wr.heap.size ∧ E.D ≤ wr.heap.size) := hid (by have := H.size; have := H.ord.cp; have := H.ord.dp; omega)
 have HBC := hid ((Below.refl E.C wr).alloc HS.out.1 (.cells #[.int .i64 (k : Int),.int .i64 (v : Int),.bool b] 140)); have HL1 : Hid (LBox (wr.alloc (.cells #[.int .i64 (k : Int),.int .i64 (v : Int),.bool b] 140)) wr.heap.size k v b) := hid (heap_alloc_new _ _); have H1 := hid (H.later HB1.out); have x6 := H1.out.cellW.2.2.2.2.2.2.1; have xv := H1.out.stays.cell hvN; rw [hpv2] at xv; have HFAR := hid (H.far hb); have HUV := hid huv; have HN := hid hn; have HPU := hid hpu2; have HPV := hid hpv2; have HFK := hid hfk; have HQ := hid hq; have HEQ := hid heq; have HP0 := hid hp0; obtain ⟨g,hg⟩ : ∃ g,wr.heap.size = g := ⟨_,rfl⟩; have HG := hid hg; rw [hg] at HL1 HFAR; clear hx hcx hpu heq hpv hpuu hp0 hpu2 hpv2 hfk hq hv hn hc ha huv hg hm; cases b with
 | true =>
  by_cases hz : pv = 0
  ·have hzb : (pv == 0) = true := by simp [hz]
   have HZ : Hid (exc E fl v = 0) := hid (HPV.out.trans hz); clear hz HQM; go_enter Tryz.func111,Tryz.ntmps111
   obtain ⟨l0,l1,l2⟩ := HL1.out.cells; go_wp2_with fail
   rw [HG.out]; go_quiet (fail)
   go_upto_region 3 with (go_at_call 131; refine (Zea (H1.out.later (Z03 (Below.refl _ _) nq)) HN.out hb HQ.out hvN (fun e => HUV.out e.symm) HZ.out HEQ.out HP0.out).mono ?_; rintro e w2 ⟨rfl,hb2,fv2,Q2,top2,hk2,hq2,has2⟩; have HK2 := hid hk2; have HQ2 := hid hq2; have HBB := hid ((Z03 HBC.out nq).trans hb2); have HL2 : Hid (LBox w2 g k v true) := hid ((has2 g (by have := HS.out; have := HG.out; omega) (by have := HG.out; show g < (wr.heap.push _).size; simp; omega) HFAR.out).trans HL1.out); have HAS : Hid (Aside E wr w2 (fv (hi v))) := hid (fun b h1 h2 h3 => (has2 b h1 (by show b < (wr.heap.push _).size; simp; omega) h3).trans (RowKit.Below.heap_alloc wr _ b h2)); clear hb2 hk2 hq2 has2; clear l0 l1 l2)
   have HB3 := hid (HK2.out.setStays u (pu - m)); have y6 := HK2.out.cellW.2.2.2.2.2.2.1; have yu := HK2.out.stays.cell hu; rw [HPU.out] at yu; have yf := HK2.out.stays.frozen u; have z6 := HB3.out.cellW.2.2.2.2.2.2.1; have zv := HB3.out.stays.cell hvN; rw [if_neg (fun e => HUV.out e.symm),HPV.out] at zv; have zf := HB3.out.stays.frozen v; have HC3 := hid (HB3.out.setStays v (pv + m)); have HL3 := hid (HL2.out.set_ (i := u) (show g ≠ E.sb from by have := HK2.out.ord.ds; have := HS.out; have := HG.out; omega) (.int .i64 (pu - m)))
   obtain ⟨l0,l1,l2⟩ := HL3.out.cells; have HL4 := hid (HL3.out.set_ (i := v) (show g ≠ E.sb from by have := HK2.out.ord.ds; have := HS.out; have := HG.out; omega) (.int .i64 (pv + m)))
   obtain ⟨m0,m1,m2⟩ := HL4.out.cells; have v5 := HC3.out.cellW.2.2.2.2.2.1; have vk := HC3.out.flow.cell hkl; rw [HFK.out] at vk; have vf := HC3.out.flow.frozen k; have HD3 := hid (HC3.out.setFlow k (fk + -m)); have HBD := hid (((HBB.out.setCell (p := ⟨E.sb,u,none⟩) HK2.out.ord.cs (.int .i64 (pu - m))).setCell (p := ⟨E.sb,v,none⟩) HK2.out.ord.cs (.int .i64 (pv + m))).setCell (p := ⟨E.fb,k,none⟩) HK2.out.ord.cf (.int .i64 (fk + -m))); go_wp2_with fail
   go_region
   go_wp2_with fail
   go_region
   go_wp2_with fail
   go_end0
   refine ⟨rfl,HBD.out.drew.drew,fv2,Q2,top2,?_,HQ2.out,fun b h1 h2 h3 => (((heap_setCell_other _ _ _ _ (fun e => by have h4 : b = E.fb := e; have := HK2.out.ord.df; omega)).trans (heap_setCell_other _ _ _ _ (fun e => by have h4 : b = E.sb := e; have := HK2.out.ord.ds; omega))).trans (heap_setCell_other _ _ _ _ (fun e => by have h4 : b = E.sb := e; have := HK2.out.ord.ds; omega))).trans (HAS.out b h1 h2 h3)⟩
   refine ((HD3.out.drew.drew.congrStays (fun i hi2 => by have := HST.out i hi2; simp only [HPU.out,HPV.out] at this; exact this)).congrFlow (fun i _ => ?_))
   unfold push; by_cases e : i = k
   ·subst e; simp [HFK.out]
   ·simp [e]
  ·have hzb : (pv == 0) = false := by simp [hz]
   have HQ2 := hid (HQM.out hz); clear hz HQM; go_enter Tryz.func111,Tryz.ntmps111
   obtain ⟨l0,l1,l2⟩ := HL1.out.cells; go_wp2_with fail
   rw [HG.out]; go_quiet (fail)
   obtain ⟨w2,hw2⟩ : ∃ w2,w2 = ((wr.alloc (.cells #[.int .i64 (k : Int),.int .i64 (v : Int),.bool true] 140)).drewN nq) := ⟨_,rfl⟩; have HK2 : Hid (Wk E fl (exc E fl) hi nx mn fv Q top w2) := hid (by rw [hw2]; exact H1.out.later (Z03 (Below.refl _ _) nq))
   have HBB : Hid (Below E.C wr w2) := hid (by rw [hw2]; exact Z03 HBC.out nq)
   have HL2 : Hid (LBox w2 g k v true) := hid (by rw [hw2]; exact HL1.out)
   have HAS : Hid (Aside E wr w2 (fv (hi v))) := hid (fun b _ h2 _ => by rw [hw2]; exact RowKit.Below.heap_alloc wr _ b h2)
   obtain ⟨fv2,hfv⟩ : ∃ z,z = fv := ⟨_,rfl⟩; obtain ⟨Q2,hQ2⟩ : ∃ z,z = Q := ⟨_,rfl⟩; obtain ⟨top2,htop2⟩ : ∃ z,z = top := ⟨_,rfl⟩; rw [← hfv,← hQ2,← htop2] at HK2; rw [← hQ2,← htop2] at HQ2; rw [← hw2]; clear hw2 hfv hQ2 htop2 x6 xv; have HB3 := hid (HK2.out.setStays u (pu - m)); have y6 := HK2.out.cellW.2.2.2.2.2.2.1; have yu := HK2.out.stays.cell hu; rw [HPU.out] at yu; have yf := HK2.out.stays.frozen u; have z6 := HB3.out.cellW.2.2.2.2.2.2.1; have zv := HB3.out.stays.cell hvN; rw [if_neg (fun e => HUV.out e.symm),HPV.out] at zv; have zf := HB3.out.stays.frozen v; have HC3 := hid (HB3.out.setStays v (pv + m)); have HL3 := hid (HL2.out.set_ (i := u) (show g ≠ E.sb from by have := HK2.out.ord.ds; have := HS.out; have := HG.out; omega) (.int .i64 (pu - m)))
   obtain ⟨l0,l1,l2⟩ := HL3.out.cells; have HL4 := hid (HL3.out.set_ (i := v) (show g ≠ E.sb from by have := HK2.out.ord.ds; have := HS.out; have := HG.out; omega) (.int .i64 (pv + m)))
   obtain ⟨m0,m1,m2⟩ := HL4.out.cells; have v5 := HC3.out.cellW.2.2.2.2.2.1; have vk := HC3.out.flow.cell hkl; rw [HFK.out] at vk; have vf := HC3.out.flow.frozen k; have HD3 := hid (HC3.out.setFlow k (fk + -m)); have HBD := hid (((HBB.out.setCell (p := ⟨E.sb,u,none⟩) HK2.out.ord.cs (.int .i64 (pu - m))).setCell (p := ⟨E.sb,v,none⟩) HK2.out.ord.cs (.int .i64 (pv + m))).setCell (p := ⟨E.fb,k,none⟩) HK2.out.ord.cf (.int .i64 (fk + -m))); go_wp2_with fail
   go_region
   go_wp2_with fail
   go_region
   go_wp2_with fail
   go_end0
   refine ⟨rfl,HBD.out.drew.drew,fv2,Q2,top2,?_,HQ2.out,fun b h1 h2 h3 => (((heap_setCell_other _ _ _ _ (fun e => by have h4 : b = E.fb := e; have := HK2.out.ord.df; omega)).trans (heap_setCell_other _ _ _ _ (fun e => by have h4 : b = E.sb := e; have := HK2.out.ord.ds; omega))).trans (heap_setCell_other _ _ _ _ (fun e => by have h4 : b = E.sb := e; have := HK2.out.ord.ds; omega))).trans (HAS.out b h1 h2 h3)⟩
   refine ((HD3.out.drew.drew.congrStays (fun i hi2 => by have := HST.out i hi2; simp only [HPU.out,HPV.out] at this; exact this)).congrFlow (fun i _ => ?_))
   unfold push; by_cases e : i = k
   ·subst e; simp [HFK.out]
   ·simp [e]
 | false =>
  by_cases hz : pv = 0
  ·have hzb : (pv == 0) = true := by simp [hz]
   have HZ : Hid (exc E fl v = 0) := hid (HPV.out.trans hz); clear hz HQM; go_enter Tryz.func111,Tryz.ntmps111
   obtain ⟨l0,l1,l2⟩ := HL1.out.cells; go_wp2_with fail
   rw [HG.out]; go_quiet (fail)
   go_upto_region 3 with (go_at_call 131; refine (Zea (H1.out.later (Z03 (Below.refl _ _) nq)) HN.out hb HQ.out hvN (fun e => HUV.out e.symm) HZ.out HEQ.out HP0.out).mono ?_; rintro e w2 ⟨rfl,hb2,fv2,Q2,top2,hk2,hq2,has2⟩; have HK2 := hid hk2; have HQ2 := hid hq2; have HBB := hid ((Z03 HBC.out nq).trans hb2); have HL2 : Hid (LBox w2 g k v false) := hid ((has2 g (by have := HS.out; have := HG.out; omega) (by have := HG.out; show g < (wr.heap.push _).size; simp; omega) HFAR.out).trans HL1.out); have HAS : Hid (Aside E wr w2 (fv (hi v))) := hid (fun b h1 h2 h3 => (has2 b h1 (by show b < (wr.heap.push _).size; simp; omega) h3).trans (RowKit.Below.heap_alloc wr _ b h2)); clear hb2 hk2 hq2 has2; clear l0 l1 l2)
   have HB3 := hid (HK2.out.setStays u (pu - m)); have y6 := HK2.out.cellW.2.2.2.2.2.2.1; have yu := HK2.out.stays.cell hu; rw [HPU.out] at yu; have yf := HK2.out.stays.frozen u; have z6 := HB3.out.cellW.2.2.2.2.2.2.1; have zv := HB3.out.stays.cell hvN; rw [if_neg (fun e => HUV.out e.symm),HPV.out] at zv; have zf := HB3.out.stays.frozen v; have HC3 := hid (HB3.out.setStays v (pv + m)); have HL3 := hid (HL2.out.set_ (i := u) (show g ≠ E.sb from by have := HK2.out.ord.ds; have := HS.out; have := HG.out; omega) (.int .i64 (pu - m)))
   obtain ⟨l0,l1,l2⟩ := HL3.out.cells; have HL4 := hid (HL3.out.set_ (i := v) (show g ≠ E.sb from by have := HK2.out.ord.ds; have := HS.out; have := HG.out; omega) (.int .i64 (pv + m)))
   obtain ⟨m0,m1,m2⟩ := HL4.out.cells; have v5 := HC3.out.cellW.2.2.2.2.2.1; have vk := HC3.out.flow.cell hkl; rw [HFK.out] at vk; have vf := HC3.out.flow.frozen k; have HD3 := hid (HC3.out.setFlow k (fk + m)); have HBD := hid (((HBB.out.setCell (p := ⟨E.sb,u,none⟩) HK2.out.ord.cs (.int .i64 (pu - m))).setCell (p := ⟨E.sb,v,none⟩) HK2.out.ord.cs (.int .i64 (pv + m))).setCell (p := ⟨E.fb,k,none⟩) HK2.out.ord.cf (.int .i64 (fk + m))); go_wp2_with fail
   go_region
   go_wp2_with fail
   go_region
   go_wp2_with fail
   go_end0
   refine ⟨rfl,HBD.out.drew.drew,fv2,Q2,top2,?_,HQ2.out,fun b h1 h2 h3 => (((heap_setCell_other _ _ _ _ (fun e => by have h4 : b = E.fb := e; have := HK2.out.ord.df; omega)).trans (heap_setCell_other _ _ _ _ (fun e => by have h4 : b = E.sb := e; have := HK2.out.ord.ds; omega))).trans (heap_setCell_other _ _ _ _ (fun e => by have h4 : b = E.sb := e; have := HK2.out.ord.ds; omega))).trans (HAS.out b h1 h2 h3)⟩
   refine ((HD3.out.drew.drew.congrStays (fun i hi2 => by have := HST.out i hi2; simp only [HPU.out,HPV.out] at this; exact this)).congrFlow (fun i _ => ?_))
   unfold push; by_cases e : i = k
   ·subst e; simp [HFK.out]
   ·simp [e]
  ·have hzb : (pv == 0) = false := by simp [hz]
   have HQ2 := hid (HQM.out hz); clear hz HQM; go_enter Tryz.func111,Tryz.ntmps111
   obtain ⟨l0,l1,l2⟩ := HL1.out.cells; go_wp2_with fail
   rw [HG.out]; go_quiet (fail)
   obtain ⟨w2,hw2⟩ : ∃ w2,w2 = ((wr.alloc (.cells #[.int .i64 (k : Int),.int .i64 (v : Int),.bool false] 140)).drewN nq) := ⟨_,rfl⟩; have HK2 : Hid (Wk E fl (exc E fl) hi nx mn fv Q top w2) := hid (by rw [hw2]; exact H1.out.later (Z03 (Below.refl _ _) nq))
   have HBB : Hid (Below E.C wr w2) := hid (by rw [hw2]; exact Z03 HBC.out nq)
   have HL2 : Hid (LBox w2 g k v false) := hid (by rw [hw2]; exact HL1.out)
   have HAS : Hid (Aside E wr w2 (fv (hi v))) := hid (fun b _ h2 _ => by rw [hw2]; exact RowKit.Below.heap_alloc wr _ b h2)
   obtain ⟨fv2,hfv⟩ : ∃ z,z = fv := ⟨_,rfl⟩; obtain ⟨Q2,hQ2⟩ : ∃ z,z = Q := ⟨_,rfl⟩; obtain ⟨top2,htop2⟩ : ∃ z,z = top := ⟨_,rfl⟩; rw [← hfv,← hQ2,← htop2] at HK2; rw [← hQ2,← htop2] at HQ2; rw [← hw2]; clear hw2 hfv hQ2 htop2 x6 xv; have HB3 := hid (HK2.out.setStays u (pu - m)); have y6 := HK2.out.cellW.2.2.2.2.2.2.1; have yu := HK2.out.stays.cell hu; rw [HPU.out] at yu; have yf := HK2.out.stays.frozen u; have z6 := HB3.out.cellW.2.2.2.2.2.2.1; have zv := HB3.out.stays.cell hvN; rw [if_neg (fun e => HUV.out e.symm),HPV.out] at zv; have zf := HB3.out.stays.frozen v; have HC3 := hid (HB3.out.setStays v (pv + m)); have HL3 := hid (HL2.out.set_ (i := u) (show g ≠ E.sb from by have := HK2.out.ord.ds; have := HS.out; have := HG.out; omega) (.int .i64 (pu - m)))
   obtain ⟨l0,l1,l2⟩ := HL3.out.cells; have HL4 := hid (HL3.out.set_ (i := v) (show g ≠ E.sb from by have := HK2.out.ord.ds; have := HS.out; have := HG.out; omega) (.int .i64 (pv + m)))
   obtain ⟨m0,m1,m2⟩ := HL4.out.cells; have v5 := HC3.out.cellW.2.2.2.2.2.1; have vk := HC3.out.flow.cell hkl; rw [HFK.out] at vk; have vf := HC3.out.flow.frozen k; have HD3 := hid (HC3.out.setFlow k (fk + m)); have HBD := hid (((HBB.out.setCell (p := ⟨E.sb,u,none⟩) HK2.out.ord.cs (.int .i64 (pu - m))).setCell (p := ⟨E.sb,v,none⟩) HK2.out.ord.cs (.int .i64 (pv + m))).setCell (p := ⟨E.fb,k,none⟩) HK2.out.ord.cf (.int .i64 (fk + m))); go_wp2_with fail
   go_region
   go_wp2_with fail
   go_region
   go_wp2_with fail
   go_end0
   refine ⟨rfl,HBD.out.drew.drew,fv2,Q2,top2,?_,HQ2.out,fun b h1 h2 h3 => (((heap_setCell_other _ _ _ _ (fun e => by have h4 : b = E.fb := e; have := HK2.out.ord.df; omega)).trans (heap_setCell_other _ _ _ _ (fun e => by have h4 : b = E.sb := e; have := HK2.out.ord.ds; omega))).trans (heap_setCell_other _ _ _ _ (fun e => by have h4 : b = E.sb := e; have := HK2.out.ord.ds; omega))).trans (HAS.out b h1 h2 h3)⟩
   refine ((HD3.out.drew.drew.congrStays (fun i hi2 => by have := HST.out i hi2; simp only [HPU.out,HPV.out] at this; exact this)).congrFlow (fun i _ => ?_))
   unfold push; by_cases e : i = k
   ·subst e; simp [HFK.out]
   ·simp [e]
end Go.Proofs.YtfkommjlmolniaaGreatDoor
end
section

namespace Go.Proofs.YtfkommjlmolniaaGreatDoor
set_option maxHeartbeats 16000000
set_option maxRecDepth 100000
open Go.Lib (hid)
open Go.RowKit
variable {w wr w2 w4 : World} {E : Env} {fl st st2 : Nat → Int} {hi nx hi2 nx2 : Nat → Nat} {mn mn2 : Nat → Int} {fv : Nat → Value} {Q : Nat → List Nat} {top m : Int} {N g c u v k : Nat} {a : La}
theorem Zjk {base : Nat} {q : List Nat} {D cap n : Nat} {val : Value} (h : w.ownsRow base 3 1 val n (nodeV q)) (hv : val = .slice (some ⟨D,0,none⟩) n cap) {j : Nat} (hj : q[j]? = some u) : w.cell? ⟨D,j,none⟩ = some (.int .i64 (u : Int)) := by
 have := World.ownsRow.cells h (g := D) (by rw [hv]; rfl) j (.int .i64 (u : Int)) (by simp [nodeV,hj])
 simpa [Addr.add_lit] using this
theorem Zm4 (H : Wk E fl st hi nx mn fv Q top wr) (hn : E.Net) (hq : Que E st Q top E.N) :
  Calls Tryz.prog 76 #[.pointer (some ⟨E.p,0,none⟩)] wr fun e w' => Below E.C wr w' ∧
   ((∃ u fv2 Q2 top2,e = .returned (.tuple #[.int .i64 ((u : Nat) : Int),.bool true]) ∧ Wk E fl st hi nx mn fv2 Q2 top2 w' ∧ Que E st Q2 top2 u ∧ u < E.N ∧ 0 < st u ∧ u ≠ E.s ∧ u ≠ E.t) ∨
    (∃ top2,e = .returned (.tuple #[.int .i64 0,.bool false]) ∧ Wk E fl st hi nx mn fv Q top2 w' ∧ ∀ i,i < E.N → i ≠ E.s → i ≠ E.t → st i ≤ 0)) := by
 obtain ⟨w0,hw0⟩ : ∃ w0,w0 = wr := ⟨_,rfl⟩; rw [← hw0] at H ⊢; clear hw0; have hN := hn.nm; have hlo := hq.lo; have H0 := hid (And.intro (Below.refl E.C w0) H); have HQ0 := hid hq; clear H hq hn; go_enter Tryz.func76,Tryz.ntmps76
 go_wp2_with fail
 go_loopg [4] (top + 1).toNat (fun gn _ wr => ∃ top : Int,top + 1 = (gn : Int) ∧ Hid (Below E.C w0 wr ∧ Wk E fl st hi nx mn fv Q top wr) ∧ Hid (Que E st Q top E.N))
 case atStart => exact ⟨top,by omega,H0,HQ0⟩
 case round =>
  obtain ⟨tp,htp,HW,HQ⟩ := hrel; clear H0 HQ0; obtain ⟨_,_,_,_,_,_,_,_,_,_,x10,x11,xf⟩ := HW.out.2.cellW; by_cases h0 : 0 ≤ tp
  ·obtain ⟨k,rfl⟩ : ∃ k : Nat,tp = (k : Int) := ⟨tp.toNat,by omega⟩
   have hk : k < 2 * E.N := by have := HQ.out.hiT; omega
   have hki : (k : Int) < 2 * (E.N : Int) := by omega
   have r1 := HW.out.2.full.cell hk; have rf := HW.out.2.full.frozen k; rcases List.eq_nil_or_concat (Q k) with hqk | ⟨q,u,hqk⟩
   ·obtain ⟨va,vc,hv⟩ := Z04 (HW.out.2.rows k hk)
    rw [hqk] at hv; simp only [List.length_nil] at hv
    rw [hv] at r1; have e1 : IntKind.i64.wrap ((k : Int) - 1) = (k : Int) - 1 := by rw [IntKind.wrap_i64]; omega
    have HW2 := hid (HW.out.2.setTop ((k : Int) - 1)); have HB2 := hid (HW.out.1.setCell (p := ⟨E.p,11,none⟩) HW.out.2.ord.cp (.int .i64 ((k : Int) - 1))); have HQ2 := hid (HQ.out.down hqk rfl); clear hqk hv; go_wp2_with fail
    go_quiet (fail)
    go_wp2_with fail
    go_roundg k
    case measure => omega
    case rel => exact ⟨(k : Int) - 1,by omega,hid ⟨Z03 HB2.out _,HW2.out.later (Z03 (Below.refl _ _) _)⟩,HQ2⟩
   ·rw [List.concat_eq_append] at hqk
    obtain ⟨n,hn⟩ : ∃ n,q.length = n := ⟨_,rfl⟩; have hrow := HW.out.2.rows k hk; have hlen : (Q k).length = n + 1 := by rw [hqk,List.length_append,hn]; rfl
    rw [hlen] at hrow; obtain ⟨D,cp,hv,hD,_,hcp,hcm⟩ := Z0x hrow (by omega)
    unfold maxLen at hcm; have rc : wr.cell? ⟨D,n,none⟩ = some (.int .i64 (u : Int)) := Zjk hrow hv (by rw [hqk,← hn]; simp)
    have hnm : n ≤ 1000 := by have := HQ.out.len hk; omega
    rw [hv] at r1; have HT := hid (HQ.out.take hk hqk rfl); have e1 : IntKind.i64.wrap ((n : Int) + 1 - 1) = (n : Int) := by rw [IntKind.wrap_i64]; omega
    have HV := hid hv; have HQK := hid hqk; have HNN := hid hn; have HRC := hid rc; clear hqk hv hrow hlen hn; go_wp2_with fail
    go_quiet (fail)
    have HWq := hid (And.intro (Z03 HW.out.1 nq) (HW.out.2.later (Z03 (Below.refl wr.heap.size wr) nq))); have HRq : Hid ((wr.drewN nq).cell? ⟨D,n,none⟩ = some (.int .i64 (u : Int))) := HRC; obtain ⟨wq,hwq⟩ : ∃ wq,wr.drewN nq = wq := ⟨_,rfl⟩; rw [hwq] at HWq HRq ⊢; clear hwq x10 x11 xf r1 rf rc HW HRC; obtain ⟨_,_,_,_,_,_,_,_,_,_,x10,x11,xf⟩ := HWq.out.2.cellW; have r1 := HWq.out.2.full.cell hk; rw [HV.out] at r1; have rf := HWq.out.2.full.frozen k; have HP := hid (HWq.out.2.popQ hk HV.out HQK.out HNN.out); have HB2 := hid (HWq.out.1.setCell (p := ⟨E.ub,k,none⟩) HWq.out.2.ord.cu (.slice (some ⟨D,0,none⟩) n cp)); have rc2 : (wq.setCell ⟨E.ub,k,none⟩ (.slice (some ⟨D,0,none⟩) n cp)).cell? ⟨D,n,none⟩ = some (.int .i64 (u : Int)) := (World.cell?_of_block (heap_setCell_other _ _ _ _ (fun e => by have e2 : D = E.ub := e; have := HWq.out.2.ord.du; omega))).trans HRq.out
    go_wp2_with fail
    go_region
    go_wp2_with fail
    go_ret2
    exact ⟨HB2.out.drew,.inl ⟨u,_,_,_,rfl,HP.out.drew,HT.out.1,HT.out.2⟩⟩
  ·have HE : Hid (∀ i,i < E.N → i ≠ E.s → i ≠ E.t → st i ≤ 0) := hid (fun i hi h1 h2 => by
    apply Classical.byContradiction
    intro h3; obtain ⟨h,_,h4,_⟩ := HQ.out.all i hi h1 h2 (by omega) (by omega)
    omega)
   go_wp2_with fail
   go_ret2
   exact ⟨HW.out.1,.inr ⟨rfl,⟨_,HW.out.2⟩,HE.out⟩⟩
end Go.Proofs.YtfkommjlmolniaaGreatDoor
end
