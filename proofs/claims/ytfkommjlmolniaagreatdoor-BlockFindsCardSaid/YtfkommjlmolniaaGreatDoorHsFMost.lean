/- Joined: FMost. -/
import Derived.Test.YtfkommjlmolniaaGreatDoorHsWEmpty
import Derived.Test.YtfkommjlmolniaaGreatDoorHsWBegun
set_option linter.unusedVariables false
section

namespace Go.Proofs.YtfkommjlmolniaaGreatDoor
set_option maxHeartbeats 16000000
set_option maxRecDepth 100000
open Go.Lib (hid)
open Go.RowKit
variable {w wr w2 : World} {a : Option Addr} {len cap N s t : Nat} {l : List Pi} {E : Env} {fl st : Nat → Int} {hi nx : Nat → Nat} {fv : Nat → Value} {Q : Nat → List Nat} {top : Int}
theorem Zez {base g len : Nat} {f : Nat → Int} (h : w.rowIs g 2 len (fun i => .int .i64 (f i))) (hb : base ≤ g) (hN : len ≤ maxLen) : LongRow w base (.slice (some ⟨g,0,none⟩) len len) len f := by
 obtain ⟨cs,hg,hs,hc⟩ := h; refine ⟨by simp [rowF],.inr ⟨g,len,cs,rfl,hb,hg,Nat.le_refl _,hN,by omega,?_⟩⟩
 rw [Nat.mul_one,List.take_of_length_le (by simp [hs])]
 apply List.ext_getElem?
 intro j; by_cases hj : j < len
 ·rw [Array.getElem?_toList,hc j hj,Z3s f hj]
 ·rw [List.getElem?_eq_none (by simp; omega),List.getElem?_eq_none (by rw [Z2x]; omega)]
structure Turn (E : Env) (wr : World) (fl : Nat → Int) (hi nx : Nat → Nat) (fv : Nat → Value) (Q : Nat → List Nat) (top : Int) (u : Nat) (b : Bool) : Prop where
 wk : Wk E fl (exc E fl) hi nx (cnt E.N hi) fv Q top wr
 pr : PRE E fl hi nx
 yes : b = true → Que E (exc E fl) Q top u ∧ u < E.N ∧ 0 < exc E fl u ∧ u ≠ E.s ∧ u ≠ E.t
 no : b = false → ∀ i,i < E.N → i ≠ E.s → i ≠ E.t → exc E fl i ≤ 0
theorem Za2 (H : Busy E E.N wr fl hi nx fv Q top) (hn : E.Net) :
  Calls Tryz.prog 76 #[.pointer (some ⟨E.p,0,none⟩)] wr fun e w' => Below E.C wr w' ∧ ∃ u b fv2 Q2 top2,e = .returned (.tuple #[.int .i64 ((u : Nat) : Int),.bool b]) ∧ Turn E w' fl hi nx fv2 Q2 top2 u b := by
 refine (Zm4 H.wk hn H.que).mono ?_; rintro e w' ⟨hb,h | h⟩
 ·obtain ⟨u,fv2,Q2,top2,rfl,hk,hq,h1,h2,h3,h4⟩ := h
  exact ⟨hb,u,true,fv2,Q2,top2,rfl,hk,H.pr,fun _ => ⟨hq,h1,h2,h3,h4⟩,fun h => by cases h⟩
 ·obtain ⟨top2,rfl,hk,h1⟩ := h
  exact ⟨hb,0,false,fv,Q,top2,rfl,hk,H.pr,fun h => (by cases h),fun _ => h1⟩
theorem Zke (N s t len cap : Nat) (l : List Pi) (a : Option Addr) (w : World) (he : endsP (N : Int) l (s : Int) (t : Int) = 0) (hl : IsPipes w.heap.size w a len l) :
  Calls Tryz.prog 56 #[.agg #[.int .i64 (N : Int),.slice a len cap],.int .i64 (s : Int),.int .i64 (t : Int)] w fun e w' => Below w.heap.size w w' ∧
   ∃ v fl much,e = .returned (.tuple #[v,.int .i64 much,.int .i64 0]) ∧ LongRow w' w.heap.size v len fl ∧ IsMost l N fl s t much := by
 have HG := hid (NBox.make (Below.refl _ w) (N : Int) a len cap); have HEN := hid (Zhg (N : Int) (s : Int) (t : Int) len cap l a _ (HG.out.pipesHere hl)); rw [he] at HEN; have HL := hid hl; have HEE := hid he; have hlen : len ≤ 20000 := by have := hl.1; have := (checkP_zero.1 (endsP_zero.1 he).1).1.2.2; omega
 clear hl he; go_enter Tryz.func56,Tryz.ntmps56
 go_wp2_with (first
  | (go_at_call 74; refine HEN.out.mono ?_; rintro e w2 ⟨rfl,hb2⟩; have HG2 := hid (HG.out.later hb2); have x0 := HG2.out.c0; have x1 := HG2.out.c1; clear hb2)
  | (go_at_call 75; refine (Zga N s t len cap l a _ HEE.out (HG2.out.pipesHere HL.out)).mono ?_; rintro e w3 ⟨E,fl,hi,nx,fv,Q,top,rfl,hEN,hEs,hEt,hEl,hElen,hnet,hb3,hC,hwk,hpr,hq⟩; have HNT := hid hnet; have HEQ := hid (And.intro hEN (And.intro hEs (And.intro hEt (And.intro hEl hElen)))); have HB3 := hid (HG2.out.later hb3).below; have HC := hid (Nat.le_trans HG2.out.below.size hC); have HBU : Hid (Busy E E.N w3 fl hi nx fv Q top) := hid ⟨hwk,hpr,hq⟩; clear hEN hEs hEt hEl hElen hnet hb3 hC hwk hpr hq)
  | (go_at_call 76; refine (Za2 HBU.out HNT.out).mono ?_; rintro e w4 ⟨hb4,u,b,fv2,Q2,top2,rfl,ht⟩; have HT4 := hid ht; have HB4 := hid (HB3.out.trans (hb4.mono HC.out)); clear hb4 ht))
 clear x0 x1; go_loopg [11,12] (measE E fl hi nx) (fun gn uv bv wr => ∃ fl hi nx fv Q top u b,uv = .int .i64 ((u : Nat) : Int) ∧ bv = .bool b ∧ gn = measE E fl hi nx ∧ Hid (Below w.heap.size w wr ∧ Turn E wr fl hi nx fv Q top u b))
 case atStart => exact ⟨fl,hi,nx,fv2,Q2,top2,u,b,rfl,rfl,rfl,hid ⟨HB4.out,HT4.out⟩⟩
 case round =>
  obtain ⟨fl,hi,nx,fv,Q,top,u,b,rfl,rfl,hgk,HW⟩ := hrel; clear HT4 HB4 HBU; cases b with
  | false =>
   obtain ⟨_,_,_,_,_,x5,x6,_⟩ := HW.out.2.wk.cellW; have htE : E.t < E.N := HNT.out.tN; have r0 := HW.out.2.wk.stays.cell htE; rw [HEQ.out.2.2.1] at r0 htE; obtain ⟨ev,hev⟩ : ∃ ev,exc E fl t = ev := ⟨_,rfl⟩; have HEV := hid hev; rw [hev] at r0; clear hev; go_wp2_with fail
   go_quiet (fail)
   go_wp2_with fail
   go_ret3
   obtain ⟨hEN,hEs,hEt,hEl,hElen⟩ := HEQ.out; have hwk := HW.out.2.wk.later (Z03 (Below.refl wr.heap.size wr) nq); have hrow : LongRow (wr.drewN nq) w.heap.size (.slice (some ⟨E.fb,0,none⟩) E.len E.len) E.len fl := Zez hwk.flow (by have := HC.out; have := hwk.ord.cf; omega) (by unfold maxLen; omega)
   have hmost : IsMost E.l E.N fl E.s E.t (netTo E.l fl (E.t : Int) E.l.length) := HW.out.2.pr.most HNT.out.lanes HNT.out.ok HNT.out.sN HNT.out.tN HNT.out.st (fun i hi h1 h2 => by
    have h3 := HW.out.2.no rfl i hi h1 h2; have h4 := HW.out.2.pr.exc i hi h1; unfold exc at h3; omega)
   have hev := HEV.out; unfold exc at hev; rw [hEl,hEN,hEs,hEt] at hmost; rw [hEl] at hev; rw [hev] at hmost; exact ⟨Z03 HW.out.1 _,_,fl,ev,rfl,by rw [hElen] at hrow; exact (by rw [hElen]; exact hrow),hmost⟩
  | true =>
   obtain ⟨hq,h1,h2,h3,h4⟩ := HW.out.2.yes rfl; have HM := hid (Zjh (u := u) ⟨HW.out.2.wk,HW.out.2.pr,hq⟩ HNT.out h1 h3 h4); have HP := hid h2; clear hq h1 h2 h3 h4; go_wp2_with (first
    | (go_at_call 77; refine HM.out.mono ?_; rintro e w5 ⟨rfl,hb5,fl2,hi2,nx2,fv2,Q2,top2,hbu,hlt⟩; have HBU := hid hbu; have HLT := hid (hlt HP.out); have HB5 := hid (HW.out.1.trans (hb5.mono HC.out)); clear hb5 hbu hlt)
    | (go_at_call 76; refine (Za2 HBU.out HNT.out).mono ?_; rintro e w6 ⟨hb6,u2,b2,fv3,Q3,top3,rfl,ht⟩; have HT6 := hid ht; have HB6 := hid (HB5.out.trans (hb6.mono HC.out)); clear hb6 ht))
   go_roundg (measE E fl2 hi2 nx2)
   case measure => have := HLT.out; omega
   case rel => exact ⟨fl2,hi2,nx2,fv3,Q3,top3,u2,b2,rfl,rfl,rfl,hid ⟨HB6.out,HT6.out⟩⟩
end Go.Proofs.YtfkommjlmolniaaGreatDoor
end
