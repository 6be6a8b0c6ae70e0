/- Joined: RApart. -/
import Derived.Test.YtfkommjlmolniaaGreatDoorHd20
import Derived.Test.YtfkommjlmolniaaGreatDoorHd1
import Derived.IntWalk
import Derived.Deep.LoopGhost
import Derived.Deep.RegionHeld3
import Derived.Deep.RegionWith
import Derived.Deep.CutRange
import Derived.BigRegion
import Derived.LoopTactic
import Derived.Maps.RangeWalk
import Derived.Test.YtfkommjlmolniaaGreatDoorHd6
set_option linter.unusedVariables false
section

namespace Go.Proofs.YtfkommjlmolniaaGreatDoor
set_option maxHeartbeats 16000000
set_option maxRecDepth 100000
open Go.Lib (hid)
open Go.RowKit
def rowL (N : Nat) (f : Nat → Int) : List Int := (List.range N).map f
theorem Z43 (N : Nat) (f : Nat → Int) : (rowL N f).length = N := by simp [rowL]
theorem Zdx {N k : Nat} (f : Nat → Int) (h : k < N) : (rowL N f)[k]? = some (f k) := by simp [rowL,h]
theorem Z02 {w W : World} {g : Nat} (h : W.heap[g]? = w.heap[g]?) (i : Nat) : W.cell? ⟨g,i,none⟩ = w.cell? ⟨g,i,none⟩ := by simp [World.cell?,h]
def mskD (T : Nat → Nat → Int) (M : Nat → Bool) (i k : Nat) : Int := if M i = true ∧ M k = true then T i k else 1152921504606846976
theorem Zdy : (Tryz.prog.info? 56).map (fun i => (i.zero,i.size,i.bytes)) = some (some (.slice none 0 0),1,24) := by kernel_rfl
theorem Z0d {P : Program} {md : Region.Mode} {ops : Array Oper} {Q : Exit → Act → World → Prop} {S : World → Prop} (i : Nat) {oi : Oper} {v : Value} {fuel : Nat} {listed : Array Bool} {a : Act} {w : World} (hS : S w) (h : wpAnyH P md ops Q S fuel (listed.setIfInBounds i true) (a.put oi.dst v) w) (hi : ops[i]? = some oi := by exact rfl) (hs : Region.noSelect ops = true := by kernel_rfl) (hf : Region.free md ops listed i = true := by kernel_rfl) (hr : (Region.ready md ops listed).contains i = true := by kernel_rfl) (hQ : ∀ c a w,Q (.panic c) (a.put oi.dst v) w → Q (.panic c) a w := by exact fun _ _ _ h => h) (hw : Region.wanted oi (yielded ops a.tmps) = true := by rfl) (y : ∀ w,S w → (execOp a.eval oi).run P w = .ok (.value v) w := by intro Wz hWz; clear hWz; go_simp; (try with_reducible rfl)) : wpAnyH P md ops Q S (fuel + 1) listed a w := stpT i hS h hi hs hf hr hQ hw y
theorem Z1z {P : Program} {md : Region.Mode} {ops : Array Oper} {Q : Exit → Act → World → Prop} {S : World → Prop} (i : Nat) {oi : Oper} {v : Value} {fuel : Nat} {listed : Array Bool} {a : Act} {w : World} (hS : S w) (h : wpAnyH P md ops Q S fuel (listed.setIfInBounds i true) (a.put oi.dst v) w) (hi : ops[i]? = some oi := by exact rfl) (hs : Region.noSelect ops = true := by kernel_rfl) (hf : Region.free md ops listed i = true := by kernel_rfl) (hr : (Region.ready md ops listed).contains i = true := by kernel_rfl) (hQ : ∀ c a w,Q (.panic c) (a.put oi.dst v) w → Q (.panic c) a w := by exact fun _ _ _ h => h) (hw : Region.wanted oi (yielded ops a.tmps) = true := by rfl) (y : ∀ w,S w → (execOp a.eval oi).run P w = .ok (.value v) w := by intro Wz hWz; obtain ⟨e1,e3,e4,r4⟩ := hWz; have r1 := (Z02 e1 i).trans q1; have r2 := (Z02 e1 j).trans q2; have r5 := (Z02 e4 (so + j)).trans q5; have r6 := (Z02 e3 k).trans q6; clear e1 e3 e4; go_simp; (try with_reducible rfl)) : wpAnyH P md ops Q S (fuel + 1) listed a w := stpT i hS h hi hs hf hr hQ hw y
theorem Zav (a sa ba : Option Addr) (ca sc bc N : Nat) (T : Nat → Nat → Int) (S : Nat → Int) (M : Nat → Bool) (w : World) (hN : 1 ≤ N ∧ N ≤ 61)
  (ht : IsRows w.heap.size w a N ((List.range N).map (fun i => rowL N (T i)))) (hs : IsNums w.heap.size w sa N (rowL N S)) (hb : IsBools w.heap.size w ba N M)
  (hT : ∀ i k,i < N → k < N → 0 ≤ T i k ∧ T i k ≤ 1000000000) (hS : ∀ i,i < N → 0 ≤ S i ∧ S i ≤ 1000000000) :
  Calls Tryz.prog 53 #[.slice a N ca,.slice sa N sc,.slice ba N bc] w fun e w' => ∃ (go : Nat) (V C : Nat → Nat) (D : Nat → Nat → Int),e = .returned (.slice (some ⟨go,0,none⟩) N N) ∧ DRs w' w.heap.size go N V C D N ∧ Sweep T S M N D N (fun _ _ _ => False) ∧ Below w.heap.size w w' := by
 obtain ⟨tb,tf,rfl,htb,htr⟩ : ∃ tb tf,a = some ⟨tb,tf,none⟩ ∧ tb < w.heap.size ∧ ∀ i,i < N → ∃ ra rc,w.cell? ⟨tb,tf + i,none⟩ = some (.slice ra N rc) ∧ IsNums w.heap.size w ra N (rowL N (T i)) := by
  rcases ht.2 with h | ⟨b,off,e,h1,h2⟩
  ·omega
  ·refine ⟨b,off,e,h1,fun i hi => ?_⟩
   obtain ⟨_,ra,rc,h3,h4⟩ := h2 i (rowL N (T i)) (by simp [hi])
   rw [Z43] at h3 h4; exact ⟨ra,rc,h3,h4⟩
 obtain ⟨sb,so,rfl,hsb,hsr⟩ : ∃ sb so,sa = some ⟨sb,so,none⟩ ∧ sb < w.heap.size ∧ ∀ i,i < N → w.cell? ⟨sb,so + i,none⟩ = some (.int .i64 (S i)) := by
  rcases hs.2 with h | ⟨b,off,e,h1,h2⟩
  ·omega
  ·exact ⟨b,off,e,h1,fun i hi => h2 i (S i) (Zdx S hi)⟩
 obtain ⟨ib,io,rfl,hib,hir⟩ : ∃ ib io,ba = some ⟨ib,io,none⟩ ∧ ib < w.heap.size ∧ ∀ i,i < N → w.cell? ⟨ib,io + i,none⟩ = some (.bool (M i)) := by
  rcases hb with h | ⟨b,off,e,h1,h2⟩
  ·omega
  ·exact ⟨b,off,e,h1,h2⟩
 have HTR : Hid (∀ W,Below w.heap.size w W → ∀ i,i < N → ∃ ra rc,W.cell? ⟨tb,tf + i,none⟩ = some (.slice ra N rc) ∧ IsNums W.heap.size W ra N (rowL N (T i))) := hid fun W hW i hi => by
  obtain ⟨ra,rc,h1,h2⟩ := htr i hi; exact ⟨ra,rc,(hW.cell (p := ⟨tb,tf + i,none⟩) htb).trans h1,(h2.later hW).mono hW.size⟩
 have HSR : Hid (∀ W,Below w.heap.size w W → ∀ i,i < N → W.cell? ⟨sb,so + i,none⟩ = some (.int .i64 (S i))) := hid fun W hW i hi => (hW.cell (p := ⟨sb,so + i,none⟩) hsb).trans (hsr i hi); have HIR : Hid (∀ W,Below w.heap.size w W → ∀ i,i < N → W.cell? ⟨ib,io + i,none⟩ = some (.bool (M i))) := hid fun W hW i hi => (hW.cell (p := ⟨ib,io + i,none⟩) hib).trans (hir i hi); have HTT := hid hT; have HSB := hid hsb; have HSS := hid hS; have hmk : ∀ W : World,(Instr.makeSlice 32 (.int .i64 (N : Int)) (.int .i64 (N : Int))).run Tryz.prog W = .ok (.slice (some ⟨W.heap.size,0,none⟩) N N) (W.alloc (.cells (madeCells #[.slice none 0 0] N) 56)) := fun W =>
  run_make_row' 32 56 (.slice none 0 0) 24 Tryz.underlying32 Zdy rfl .i64 .i64 N (by omega) (by omega) W
 have HD0 : Hid (DRs (w.alloc (.cells (madeCells #[.slice none 0 0] N) 56)) w.heap.size w.heap.size N (fun _ => 0) (fun _ => 0) (fun _ _ => 0) 0) := hid (DRs.nil (World.rowIs_made w (.slice none 0 0) N 56) (Nat.le_refl _)); have HB0 : Hid (Below w.heap.size w (w.alloc (.cells (madeCells #[.slice none 0 0] N) 56))) := hid ((Below.refl _ w).alloc (Nat.le_refl _) _); clear ht hs hb hT hS htb htr hsb hsr hib hir; go_enter Tryz.func53,Tryz.ntmps53
 go_wp2_with fail
 obtain ⟨w1,hw1⟩ : ∃ z,z = w.alloc (.cells (madeCells #[.slice none 0 0] N) 56) := ⟨_,rfl⟩; obtain ⟨go,hgo⟩ : ∃ g,g = w.heap.size := ⟨_,rfl⟩; rw [← hw1] at HD0 HB0 ⊢; have HD1 : Hid (DRs w1 w.heap.size go N (fun _ => 0) (fun _ => 0) (fun _ _ => 0) 0) := hid (by rw [hgo]; exact HD0.out)
 rw [← hgo]; clear hw1 HD0 hgo; go_loopw [20] (fun iv wr => ∃ i : Nat,iv = .int .i64 (i : Int) ∧ i ≤ N ∧ Hid (∃ V C D,DRs wr w.heap.size go N V C D i ∧ ∀ i2 k,i2 < i → k < N → D i2 k = if i2 = k then 0 else mskD T M i2 k) ∧ Hid (Below w.heap.size w wr)) (fun iv _ => N - (intOf iv).toNat)
 case atStart => exact ⟨0,rfl,Nat.zero_le _,hid ⟨_,_,_,HD1.out,fun _ _ h => absurd h (by omega)⟩,HB0⟩
 case round =>
  obtain ⟨i,rfl,hi,HD,HB⟩ := hrel; clear HD1 HB0; by_cases hlt : i < N
  ·obtain ⟨V,C,D,hd,hdf⟩ := HD.out
   obtain ⟨ra,rc,q0,hn⟩ := HTR.out wr HB.out i hlt; have HCL := hid (Zha ra N rc _ wr (by omega) hn.src)
   have HDD := hid hd; have HDF := hid hdf; clear hd hdf hn HD; go_wp2_with fail
   refine HCL.out.mono ?_; rintro e w2 ⟨hb2,v,rfl,hown⟩; have hlr : LongRow w2 wr.heap.size v N (T i) := by
    unfold LongRow; rw [show rowF N (T i) = numsV (rowL N (T i)) by simp [rowF,numsV,rowL]]
    exact hown
   obtain ⟨g,cap,rfl,hg1,hg2,hg3,hg4⟩ := hlr.some_ (by omega)
   have hcell : w2.cell? ⟨go,i,none⟩ = some (.slice none 0 0) := by
    have := (HDD.out.later hb2).outer.cell (i := i) hlt; rw [if_neg (Nat.lt_irrefl i)] at this; exact this
   have hfz : w2.frozen? ⟨go,i,none⟩ = false := (HDD.out.later hb2).outer.frozen i; obtain ⟨V2,C2,D2,hd2,hV2,hC2,hD2,hDo⟩ : ∃ V2 C2 D2,DRs (w2.setCell ⟨go,i,none⟩ (.slice (some ⟨g,0,none⟩) N cap)) w.heap.size go N V2 C2 D2 (i + 1) ∧ V2 i = g ∧ C2 i = cap ∧ (∀ k,k < N → D2 i k = T i k) ∧ ∀ i2 k,i2 < i → k < N → D2 i2 k = if i2 = k then 0 else mskD T M i2 k :=
    ⟨_,_,_,HDD.out.more hlt HB.out.size hb2 hlr,if_pos rfl,if_pos rfl,fun k _ => by simp,fun i2 k h1 h2 => by
     have := HDF.out i2 k h1 h2; simp only [show ¬ i2 = i by omega,if_false]
     exact this⟩
   have hge := HDD.out.geo; have hb3 := ((HB.out.trans (hb2.mono HB.out.size))).setCell (p := ⟨go,i,none⟩) hge (.slice (some ⟨g,0,none⟩) N cap); have c1 := hd2.at_ (i := i) (by omega) (by omega)
   rw [hV2,hC2] at c1; have HD2 := hid hd2; have HV2 := hid hV2; have HC2 := hid hC2; have HDI := hid hD2; have HDO := hid hDo; have HB3 := hid hb3; clear hown hlr hd2 hV2 hC2 hD2 hDo hb3 hb2 HCL HDD HDF hge HB hg1 hg2; go_wp2_with fail
   obtain ⟨w3,hw3⟩ : ∃ z,z = w2.setCell ⟨go,i,none⟩ (.slice (some ⟨g,0,none⟩) N cap) := ⟨_,rfl⟩; rw [← hw3] at HD2 HB3 ⊢; clear hw3 c1 hcell hfz; go_loopw [36] (fun kv wx => ∃ (k : Nat),kv = .int .i64 (k : Int) ∧ k ≤ N ∧ Hid (∃ D,DRs wx w.heap.size go N V2 C2 D (i + 1) ∧ (∀ k2,k2 < k → D i k2 = mskD T M i k2) ∧ (∀ k2,k ≤ k2 → k2 < N → D i k2 = T i k2) ∧ ∀ i2 k,i2 < i → k < N → D i2 k = if i2 = k then 0 else mskD T M i2 k) ∧ Hid (Below w.heap.size w wx)) (fun kv _ => N - (intOf kv).toNat)
   case atStart => exact ⟨0,rfl,Nat.zero_le _,hid ⟨D2,HD2.out,fun _ h => absurd h (by omega),fun k _ h => HDI.out k h,HDO.out⟩,HB3⟩
   case round =>
    obtain ⟨k,rfl,hk,HD,HB⟩ := hrel; clear HD2 HDI HDO HB3; by_cases hkt : k < N
    ·obtain ⟨D,hd,hd1,hd2,hd3⟩ := HD.out
     have m1 := HIR.out wr HB.out i hlt; have m2 := HIR.out wr HB.out k hkt; have hge := HD.out.elim fun _ h => h.1.geo; by_cases hm : M i = true ∧ M k = true
     ·rw [hm.1] at m1
      rw [hm.2] at m2; have HN : Hid (∃ D,DRs wr w.heap.size go N V2 C2 D (i + 1) ∧ (∀ k2,k2 < k + 1 → D i k2 = mskD T M i k2) ∧ (∀ k2,k + 1 ≤ k2 → k2 < N → D i k2 = T i k2) ∧ ∀ i2 k,i2 < i → k < N → D i2 k = if i2 = k then 0 else mskD T M i2 k) := hid ⟨D,hd,fun k2 h => by
       by_cases e : k2 = k
       ·subst e; rw [hd2 k2 (Nat.le_refl _) hkt]; exact (if_pos hm).symm
       ·exact hd1 k2 (by omega),fun k2 h1 h2 => hd2 k2 (by omega) h2,hd3⟩
      clear hd hd1 hd2 hd3 hm HD hge; go_wp2_with fail
      go_roundw
      case rel => exact ⟨k + 1,by go_num,by omega,HN,HB⟩
      case measure => simp [intOf]; omega
     ·have c1 := hd.at_ (i := i) (by omega) (by omega)
      rw [HV2.out,HC2.out] at c1; have c2 := hd.get (i := i) (k := k) (by omega) hkt
      have c3 := hd.froz (i := i) (by omega) k
      have hp := hd.put (i := i) (k := k) (by omega) hkt 1152921504606846976
      have hgB := ((hd.row i (by omega)).base_).1
      rw [HV2.out] at c2 c3 hp hgB; have HN : Hid (∃ D,DRs (wr.setCell ⟨g,k,none⟩ (.int .i64 1152921504606846976)) w.heap.size go N V2 C2 D (i + 1) ∧ (∀ k2,k2 < k + 1 → D i k2 = mskD T M i k2) ∧ (∀ k2,k + 1 ≤ k2 → k2 < N → D i k2 = T i k2) ∧ ∀ i2 k,i2 < i → k < N → D i2 k = if i2 = k then 0 else mskD T M i2 k) := hid ⟨_,hp,fun k2 h => by
       unfold putD; by_cases e : k2 = k
       ·subst e; rw [if_pos ⟨rfl,rfl⟩]; exact (if_neg hm).symm
       ·rw [if_neg (fun h => e h.2)]; exact hd1 k2 (by omega),fun k2 h1 h2 => by
       unfold putD; rw [if_neg (fun h => by omega)]
       exact hd2 k2 (by omega) h2,fun i2 k2 h1 h2 => by
       unfold putD; rw [if_neg (fun h => by omega)]
       exact hd3 i2 k2 h1 h2⟩
      have HB2 := hid (HB.out.setCell (p := ⟨g,k,none⟩) hgB (.int .i64 1152921504606846976)); clear hd hd1 hd2 hd3 hp hgB HD HB hge; cases e1 : M i with
      | false =>
       rw [e1] at m1; clear e1 hm; go_wp2_with fail
       go_roundw
       case rel => exact ⟨k + 1,by go_num,by omega,HN,HB2⟩
       case measure => simp [intOf]; omega
      | true =>
       cases e2 : M k with
       | true => exact absurd ⟨e1,e2⟩ hm
       | false =>
        rw [e1] at m1; rw [e2] at m2; clear e1 e2 hm; go_wp2_with fail
        go_roundw
        case rel => exact ⟨k + 1,by go_num,by omega,HN,HB2⟩
        case measure => simp [intOf]; omega
    ·obtain rfl : N = k := by omega
     obtain ⟨D,hd,hd1,hd2,hd3⟩ := HD.out; have c1 := hd.at_ (i := i) (by omega) (by omega)
     rw [HV2.out,HC2.out] at c1; have c2 := hd.get (i := i) (k := i) (by omega) hlt
     have c3 := hd.froz (i := i) (by omega) i
     have hp := hd.put (i := i) (k := i) (by omega) hlt 0
     have hgB := ((hd.row i (by omega)).base_).1
     rw [HV2.out] at c2 c3 hp hgB; have HN : Hid (∃ V C D,DRs (wr.setCell ⟨g,i,none⟩ (.int .i64 0)) w.heap.size go N V C D (i + 1) ∧ ∀ i2 k,i2 < i + 1 → k < N → D i2 k = if i2 = k then 0 else mskD T M i2 k) := hid ⟨V2,C2,_,hp,fun i2 k2 h1 h2 => by
      unfold putD; by_cases e : i2 = i
      ·subst e
       by_cases e2 : k2 = i2
       ·rw [if_pos ⟨rfl,e2⟩,if_pos e2.symm]
       ·rw [if_neg (fun h => e2 h.2),if_neg (fun h => e2 h.symm)]; exact hd1 k2 h2
      ·rw [if_neg (fun h => e h.1)]
       exact hd3 i2 k2 (by omega) h2⟩
     have HB2 := hid (HB.out.setCell (p := ⟨g,i,none⟩) hgB (.int .i64 0)); clear hd hd1 hd2 hd3 hp hgB HD HB; go_wp2_with fail
     go_roundw
     case rel => exact ⟨i + 1,by go_num,by omega,HN,HB2⟩
     case measure => simp [intOf]; omega
  ·obtain rfl : N = i := by omega
   obtain ⟨V,C,D,hd,hdf⟩ := HD.out; have hsw : Sweep T S M N D 0 (fun _ _ _ => False) := Sweep.begin_ (fun i h _ => by rw [hdf i i h h,if_pos rfl]) (fun i k h1 h2 m1 m2 hne => by rw [hdf i k h1 h2,if_neg hne]; exact if_pos ⟨m1,m2⟩)
   have HS0 : Hid (∃ D,DRs wr w.heap.size go N V C D N ∧ Sweep T S M N D 0 (fun _ _ _ => False)) := hid ⟨D,hd,hsw⟩; have HB0 := HB; clear hd hdf hsw HD HB HTR hmk hlt hi; have HTP : Hid (∀ i k,i < N → k < N → 0 ≤ T i k) := hid fun i k h1 h2 => (HTT.out i k h1 h2).1; have HSP : Hid (∀ i,i < N → 0 ≤ S i) := hid fun i h => (HSS.out i h).1; go_wp2_with fail
   go_loopw [66] (fun rv wr => ∃ r : Nat,rv = .int .i64 (r : Int) ∧ r ≤ N ∧ Hid (∃ D,DRs wr w.heap.size go N V C D N ∧ Sweep T S M N D r (fun _ _ _ => False)) ∧ Hid (Below w.heap.size w wr)) (fun rv _ => N - (intOf rv).toNat)
   case atStart => exact ⟨0,rfl,Nat.zero_le _,HS0,HB0⟩
   case round =>
    obtain ⟨r,rfl,hr,HSW,HB⟩ := hrel; clear HS0 HB0; by_cases hrt : r < N
    ·have HS1 : Hid (∃ D,DRs wr w.heap.size go N V C D N ∧ Sweep T S M N D r (fun a b c => (a < N ∧ b < N ∧ c < N) ∧ a < 0)) := hid (by
      obtain ⟨D,h1,h2⟩ := HSW.out; exact ⟨D,h1,h2.sub fun a b c h => by omega⟩)
     have HB1 := HB; clear HSW HB; go_wp2_with fail
     go_loopw [69] (fun iv wr => ∃ i : Nat,iv = .int .i64 (i : Int) ∧ i ≤ N ∧ Hid (∃ D,DRs wr w.heap.size go N V C D N ∧ Sweep T S M N D r (fun a b c => (a < N ∧ b < N ∧ c < N) ∧ a < i)) ∧ Hid (Below w.heap.size w wr)) (fun iv _ => N - (intOf iv).toNat)
     case atStart => exact ⟨0,rfl,Nat.zero_le _,HS1,HB1⟩
     case round =>
      obtain ⟨i,rfl,hi,HSW,HB⟩ := hrel; clear HS1 HB1; by_cases hit : i < N
      ·have HS1 : Hid (∃ D,DRs wr w.heap.size go N V C D N ∧ Sweep T S M N D r (fun a b c => (a < N ∧ b < N ∧ c < N) ∧ (a < i ∨ (a = i ∧ b < 0)))) := hid (by
        obtain ⟨D,h1,h2⟩ := HSW.out; exact ⟨D,h1,h2.sub fun a b c h => by omega⟩)
       have HB1 := HB; clear HSW HB; go_wp2_with fail
       go_loopw [73] (fun kv wr => ∃ k : Nat,kv = .int .i64 (k : Int) ∧ k ≤ N ∧ Hid (∃ D,DRs wr w.heap.size go N V C D N ∧ Sweep T S M N D r (fun a b c => (a < N ∧ b < N ∧ c < N) ∧ (a < i ∨ (a = i ∧ b < k)))) ∧ Hid (Below w.heap.size w wr)) (fun kv _ => N - (intOf kv).toNat)
       case atStart => exact ⟨0,rfl,Nat.zero_le _,HS1,HB1⟩
       case round =>
        obtain ⟨k,rfl,hk,HSW,HB⟩ := hrel; clear HS1 HB1; by_cases hkt : k < N
        ·have HS1 : Hid (∃ D,DRs wr w.heap.size go N V C D N ∧ Sweep T S M N D r (fun a b c => (a < N ∧ b < N ∧ c < N) ∧ (a < i ∨ (a = i ∧ (b < k ∨ (b = k ∧ c < 0)))))) := hid (by
          obtain ⟨D,h1,h2⟩ := HSW.out; exact ⟨D,h1,h2.sub fun a b c h => by omega⟩)
         have HB1 := HB; clear HSW HB; go_wp2_with fail
         go_loopw [77] (fun jv wr => ∃ j : Nat,jv = .int .i64 (j : Int) ∧ j ≤ N ∧ Hid (∃ D,DRs wr w.heap.size go N V C D N ∧ Sweep T S M N D r (fun a b c => (a < N ∧ b < N ∧ c < N) ∧ (a < i ∨ (a = i ∧ (b < k ∨ (b = k ∧ c < j)))))) ∧ Hid (Below w.heap.size w wr)) (fun jv _ => N - (intOf jv).toNat)
         case atStart => exact ⟨0,rfl,Nat.zero_le _,HS1,HB1⟩
         case round =>
          obtain ⟨j,rfl,hj,HSW,HB⟩ := hrel; clear HS1 HB1; by_cases hjt : j < N
          ·obtain ⟨D,hd,hsw⟩ := HSW.out
           have mi := HIR.out wr HB.out i hit; have mj := HIR.out wr HB.out j hjt; have mk := HIR.out wr HB.out k hkt; by_cases hc : i ≠ j ∧ j ≠ k ∧ M j = true ∧ M i = true ∧ M k = true
           ·obtain ⟨hij,hjk,hmj,hmi,hmk⟩ := hc
            have a1 : ((i : Int) != (j : Int)) = true := by simp; omega
            have a2 : ((j : Int) != (k : Int)) = true := by simp; omega
            rw [hmi] at mi; rw [hmj] at mj; rw [hmk] at mk; have q1 := hd.at_ (i := i) hit (Nat.le_refl _); have q2 := hd.at_ (i := j) hjt (Nat.le_refl _); have q3 := hd.get (i := i) (k := k) hit hkt; have q4 := hd.get (i := i) (k := j) hit hjt; have q5 := HSR.out wr HB.out j hjt; have q6 := hd.get (i := j) (k := k) hjt hkt; have f3 := hd.froz (i := i) hit k; have b1 := hsw.pos HTP.out HSP.out hit hkt hmi hmk; have b2 := hsw.pos HTP.out HSP.out hit hjt hmi hmj; have b3 := hsw.pos HTP.out HSP.out hjt hkt hmj hmk; have b4 := hsw.le i j hit hjt hmi hmj hij; have b5 := hsw.le j k hjt hkt hmj hmk hjk; have b6 := (HTT.out i j hit hjt).2; have b7 := (HTT.out j k hjt hkt).2; have b8 := HSS.out j hjt; obtain ⟨z,hz⟩ : ∃ z,z = min (D i k) (D i j + S j + D j k) := ⟨_,rfl⟩; have hst := hsw.step HTP.out HSP.out hit hjt hkt hmi hmj hmk hij hjk z hz; have hpt := (hd.later (Below.refl _ wr).drew).put (i := i) (k := k) hit hkt z; have hgB := ((hd.row i hit).base_).1; have n1 := hd.ne (i := i) hit; have HN : Hid (∃ D,DRs (wr.drew.setCell ⟨V i,k,none⟩ (.int .i64 z)) w.heap.size go N V C D N ∧ Sweep T S M N D r (fun a b c => (a < N ∧ b < N ∧ c < N) ∧ (a < i ∨ (a = i ∧ (b < k ∨ (b = k ∧ c < j + 1)))))) := hid ⟨_,hpt,hst.sub fun a b c h => by omega⟩
            have HB2 : Hid (Below w.heap.size w (wr.drew.setCell ⟨V i,k,none⟩ (.int .i64 z))) := hid (HB.out.drew.setCell (p := ⟨V i,k,none⟩) hgB (.int .i64 z)); obtain ⟨p,hp⟩ : ∃ p,D i k = p := ⟨_,rfl⟩; obtain ⟨q,hq⟩ : ∃ q,D i j = q := ⟨_,rfl⟩; obtain ⟨s,hs⟩ : ∃ s,S j = s := ⟨_,rfl⟩; obtain ⟨t,ht⟩ : ∃ t,D j k = t := ⟨_,rfl⟩; rw [hp] at q3 b1 hz; rw [hq] at q4 b2 b4 hz; rw [hs] at q5 b8 hz; rw [ht] at q6 b3 b5 hz; have w1 : IntKind.i64.wrap (q + s) = q + s := by rw [IntKind.wrap_i64]; omega
            have w2 : IntKind.i64.wrap (q + s + t) = q + s + t := by rw [IntKind.wrap_i64]; omega
            have z1 : min p (q + s + t) = z := hz.symm; have z2 : (if q + s + t < p then q + s + t else p) = z := by rw [hz]; split <;> omega
            have n2 : V j ≠ V i := fun e => hij (hd.inj _ _ hjt hit e).symm; have n3 : sb ≠ V i := fun e => by have := HSB.out; omega
            have HOK : Hid ((wr.drew.setCell ⟨V i,k,none⟩ (.int .i64 z)).heap[go]? = wr.heap[go]? ∧ (wr.drew.setCell ⟨V i,k,none⟩ (.int .i64 z)).heap[V j]? = wr.heap[V j]? ∧ (wr.drew.setCell ⟨V i,k,none⟩ (.int .i64 z)).heap[sb]? = wr.heap[sb]? ∧ (wr.drew.setCell ⟨V i,k,none⟩ (.int .i64 z)).cell? ⟨V i,j,none⟩ = some (.int .i64 q)) := hid ⟨heap_setCell_other _ _ _ _ n1,heap_setCell_other _ _ _ _ n2,heap_setCell_other _ _ _ _ n3,by
             have h := hpt.get (i := i) (k := j) hit hjt; unfold putD at h; rw [if_neg (fun e => hjk e.2),hq] at h; exact h⟩
            clear hd hsw hst hpt hp hq hs ht hgB hz hmi hmj hmk b1 b2 b3 b4 b5 b6 b7 b8; go_upto_region 27 with fail
            refine wp_region_held_drew (S := (fun Wz => Wz.heap[go]? = wr.heap[go]? ∧ Wz.heap[V j]? = wr.heap[V j]? ∧ Wz.heap[sb]? = wr.heap[sb]? ∧ Wz.cell? ⟨V i,j,none⟩ = some (.int .i64 q))) (by kernel_rfl) ⟨rfl,rfl,rfl,q4⟩ (fun hHeld => ?_)
            refine Z0d 0 hHeld ?_; try go_frame
            refine Z0d 1 hHeld ?_; try go_frame
            refine Z0d 2 hHeld ?_; try go_frame
            refine Z1z 3 hHeld ?_; try go_frame
            refine Z0d 4 hHeld ?_; try go_frame
            refine Z0d 5 hHeld ?_; try go_frame
            refine Z0d 6 hHeld ?_; try go_frame
            refine Z0d 7 hHeld ?_; try go_frame
            refine Z1z 8 hHeld ?_; try go_frame
            refine Z0d 9 hHeld ?_; try go_frame
            refine Z0d 10 hHeld ?_; try go_frame
            refine Z0d 12 hHeld ?_; try go_frame
            refine Z0d 13 hHeld ?_; try go_frame
            refine Z0d 14 hHeld ?_; try go_frame
            refine Z1z 15 hHeld ?_; try go_frame
            refine Z0d 16 hHeld ?_; try go_frame
            refine Z0d 17 hHeld ?_; try go_frame
            refine Z1z 18 hHeld ?_; try go_frame
            refine Z0d 19 hHeld ?_; try go_frame
            refine Z0d 20 hHeld ?_; try go_frame
            refine Z0d 21 hHeld ?_; try go_frame
            refine Z1z 22 hHeld ?_; try go_frame
            refine Z0d 23 hHeld ?_; try go_frame
            try simp only [w1]
            refine Z0d 24 hHeld ?_; try go_frame
            refine Z0d 25 hHeld ?_; try go_frame
            refine Z0d 26 hHeld ?_; try go_frame
            refine Z1z 27 hHeld ?_; try go_frame
            refine Z0d 28 hHeld ?_; try go_frame
            refine Z0d 29 hHeld ?_; try go_frame
            refine Z1z 30 hHeld ?_; try go_frame
            refine Z0d 31 hHeld ?_; try go_frame
            try simp only [w2]
            have k2 : wr.drew.cell? ⟨V i,k,none⟩ = some (.int .i64 p) := q3; refine stpR 11 (fun K hK => ?_); go_simp; refine hK.out _ _ ?_ (fun hHeld => ?_)
            ·exact hHeld
            clear hK K k2; try go_frame
            refine Z0d 32 hHeld ?_; try go_frame
            refine Z0d 33 hHeld ?_; try go_frame
            have k2 : wr.drew.cell? ⟨V i,k,none⟩ = some (.int .i64 p) := q3; have k3 : wr.drew.frozen? ⟨V i,k,none⟩ = false := f3; refine stpR 34 (fun K hK => ?_); go_simp; refine hK.out _ _ ?_ (fun hHeld => ?_)
            ·exact HOK.out
            clear hK K k2 k3; try go_frame
            refine wpAnyH_done (by kernel_rfl) ?_ _
            clear hHeld HOK q1 q2 q3 q4 q5 q6 f3 mi mj mk; go_wp2_with fail
            go_roundw
            case rel => exact ⟨j + 1,by go_num,by omega,HN,HB2⟩
            case measure => simp [intOf]; omega
           ·have HN : Hid (∃ D,DRs wr w.heap.size go N V C D N ∧ Sweep T S M N D r (fun a b c => (a < N ∧ b < N ∧ c < N) ∧ (a < i ∨ (a = i ∧ (b < k ∨ (b = k ∧ c < j + 1)))))) := hid ⟨D,hd,(hsw.skip hc).sub fun a b c h => by omega⟩
            clear hd hsw HSW; by_cases e1 : i = j
            ·have a1 : ((i : Int) != (j : Int)) = false := by simp; omega
             clear e1 hc; go_wp2_with fail
             go_roundw
             case rel => exact ⟨j + 1,by go_num,by omega,HN,HB⟩
             case measure => simp [intOf]; omega
            ·have a1 : ((i : Int) != (j : Int)) = true := by simp; omega
             by_cases e2 : j = k
             ·have a2 : ((j : Int) != (k : Int)) = false := by simp; omega
              clear e1 e2 hc; go_wp2_with fail
              go_roundw
              case rel => exact ⟨j + 1,by go_num,by omega,HN,HB⟩
              case measure => simp [intOf]; omega
             ·have a2 : ((j : Int) != (k : Int)) = true := by simp; omega
              cases hmj : M j with
              | false =>
               rw [hmj] at mj; clear e1 e2 hc; go_wp2_with fail
               go_roundw
               case rel => exact ⟨j + 1,by go_num,by omega,HN,HB⟩
               case measure => simp [intOf]; omega
              | true =>
               rw [hmj] at mj; cases hmi : M i with
               | false =>
                rw [hmi] at mi; clear e1 e2 hc; go_wp2_with fail
                go_roundw
                case rel => exact ⟨j + 1,by go_num,by omega,HN,HB⟩
                case measure => simp [intOf]; omega
               | true =>
                rw [hmi] at mi; cases hmk : M k with
                | false =>
                 rw [hmk] at mk; clear e1 e2 hc; go_wp2_with fail
                 go_roundw
                 case rel => exact ⟨j + 1,by go_num,by omega,HN,HB⟩
                 case measure => simp [intOf]; omega
                | true =>
                 exact absurd ⟨e1,e2,hmj,hmi,hmk⟩ hc
          ·obtain rfl : N = j := by omega
           have HN : Hid (∃ D,DRs wr w.heap.size go N V C D N ∧ Sweep T S M N D r (fun a b c => (a < N ∧ b < N ∧ c < N) ∧ (a < i ∨ (a = i ∧ b < k + 1)))) := hid (by
            obtain ⟨D,h1,h2⟩ := HSW.out; exact ⟨D,h1,h2.sub fun a b c h => by omega⟩)
           clear HSW; go_wp2_with fail
           go_roundw
           case rel => exact ⟨k + 1,by go_num,by omega,HN,HB⟩
           case measure => simp [intOf]; omega
        ·obtain rfl : N = k := by omega
         have HN : Hid (∃ D,DRs wr w.heap.size go N V C D N ∧ Sweep T S M N D r (fun a b c => (a < N ∧ b < N ∧ c < N) ∧ a < i + 1)) := hid (by
          obtain ⟨D,h1,h2⟩ := HSW.out; exact ⟨D,h1,h2.sub fun a b c h => by omega⟩)
         clear HSW; go_wp2_with fail
         go_roundw
         case rel => exact ⟨i + 1,by go_num,by omega,HN,HB⟩
         case measure => simp [intOf]; omega
      ·obtain rfl : N = i := by omega
       have HN : Hid (∃ D,DRs wr w.heap.size go N V C D N ∧ Sweep T S M N D (r + 1) (fun _ _ _ => False)) := hid (by
        obtain ⟨D,h1,h2⟩ := HSW.out; exact ⟨D,h1,h2.next HTP.out HSP.out fun a b c h1 h2 h3 => by omega⟩)
       clear HSW; go_wp2_with fail
       go_roundw
       case rel => exact ⟨r + 1,by go_num,by omega,HN,HB⟩
       case measure => simp [intOf]; omega
    ·obtain rfl : N = r := by omega
     go_wp2_with fail
     go_ret
     obtain ⟨D,h1,h2⟩ := HSW.out; exact ⟨go,V,C,D,rfl,h1,h2,HB.out⟩
end Go.Proofs.YtfkommjlmolniaaGreatDoor
end
