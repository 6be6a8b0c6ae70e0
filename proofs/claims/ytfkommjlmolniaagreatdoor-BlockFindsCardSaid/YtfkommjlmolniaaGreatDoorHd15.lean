/- Joined: NearIs, ReachSpec, INode, ISat, RClo, BoxK, Turned, TurnedDo. -/
import Derived.Test.YtfkommjlmolniaaGreatDoorHd14
import Derived.Deep.LoopGhost
import Derived.LoopTactic
import Derived.Test.YtfkommjlmolniaaGreatDoorHd2
import Derived.Test.YtfkommjlmolniaaGreatDoorHd1
import Derived.Deep.RegionHeld3
import Derived.Maps.RangeWalk
import Derived.Test.YtfkommjlmolniaaGreatDoorHd6
import Derived.Test.YtfkommjlmolniaaGreatDoorHd12
import Derived.OneCell
set_option linter.unusedVariables false
section

namespace Go.Proofs.YtfkommjlmolniaaGreatDoor
set_option maxHeartbeats 16000000
set_option maxRecDepth 100000
open Go.Lib (hid)
open Go.RowKit
variable {w w0 wr w1 w2 : World} {a : Option Addr} {len cap K co g tb tn nx gf cf gb cb L b N i j k t s D rs bx u : Nat} {l : List Ar} {V : Nat → Value} {f by_ : Nat → Int} {v v' : Value} {Q : List It} {x y : It} {dn : Nat → Bool}
def Zo1 (l : List Ar) (s N : Nat) (w : World) (e : Ending) (w' : World) : Prop := Below w.heap.size w w' ∧ ∃ (gf cf : Nat) (vb : Value) (far : Nat → Option Int) (dn : Nat → Bool) (by_ : Nat → Int),e = .returned (.tuple #[.agg #[.slice (some ⟨gf,0,none⟩) N cf,vb],.int .i64 0]) ∧
 LongRow w' w.heap.size (.slice (some ⟨gf,0,none⟩) N cf) N (valI far) ∧ IntRow w' w.heap.size vb N by_ ∧ SrchH l s N far dn []
structure NrBox (w wr : World) (N : Nat) (a : Option Addr) (len cap : Nat) : Prop where
 box : Box w wr w.heap.size (N : Int) a len cap
 res : wr.heap[w.heap.size + 1]? = some (.cells #[.slice none 0 0,.slice none 0 0] 117 (0,0))
theorem NrBox.make (w : World) (N : Nat) (a : Option Addr) (len cap : Nat) : NrBox w ((w.alloc (.cells #[.int .i64 (N : Int),.slice a len cap] 95)).alloc (.cells #[.slice none 0 0,.slice none 0 0] 117)) N a len cap :=
 ⟨(Box.make (Below.refl _ w) N a len cap).alloc _,heap_alloc2_new w _ _⟩
theorem NrBox.later (h : NrBox w wr N a len cap) (hb : Below wr.heap.size wr w2) : NrBox w w2 N a len cap := ⟨h.box.later hb,(hb.block _ (Array.getElem?_eq_some_iff.1 h.res).1).trans h.res⟩
theorem Zfq {w3 w5 : World} (H3 : NrBox w w3 N a len cap) (hl : IsArcs w.heap.size w a len l) (hf : LongRow w3 w2.heap.size (.slice (some ⟨gf,0,none⟩) N N) N f) (hb : IntRow w3 w2.heap.size (.slice (some ⟨gb,0,none⟩) N N) N by_) (hne : gf ≠ gb) (h2 : w.heap.size + 2 ≤ w2.heap.size)
  (hL : LookerW (w3.alloc (.cells #[.slice (some ⟨gf,0,none⟩) N N,.slice (some ⟨gb,0,none⟩) N N] 117)) w5 tb g (.slice (some ⟨gf,0,none⟩) N N) (.slice (some ⟨gb,0,none⟩) N N) (N : Int) a len cap co L N V (outK l)) (htb : (w3.alloc (.cells #[.slice (some ⟨gf,0,none⟩) N N,.slice (some ⟨gb,0,none⟩) N N] 117)).heap.size ≤ tb) :
  NearW w (((w5.alloc (.cells (madeCells #[.bool false] N) 4)).alloc (.cells #[.slice none 0 0] 179)).alloc (.cells #[.pointer (some ⟨w5.heap.size + 1,0,none⟩)] 150)) w5.heap.size co g tb w3.heap.size (w5.heap.size + 1 + 1) gf N gb N L (w5.heap.size + 1) N a len cap V l f by_ (.slice none 0 0) [] ∧
  NearP w (((w5.alloc (.cells (madeCells #[.bool false] N) 4)).alloc (.cells #[.slice none 0 0] 179)).alloc (.cells #[.pointer (some ⟨w5.heap.size + 1,0,none⟩)] 150)) w5.heap.size w5.heap.size (w.heap.size + 1) N (w5.heap.size + 1) (w5.heap.size + 1 + 1) gf gb (fun _ => false) (.slice none 0 0) := by
 have hbT : Below w3.heap.size w3 (w3.alloc (.cells #[.slice (some ⟨gf,0,none⟩) N N,.slice (some ⟨gb,0,none⟩) N N] 117)) := (Below.refl _ _).alloc (Nat.le_refl _) _; have hb5 : Below w3.heap.size w3 w5 := hbT.trans (hL.box.below.mono (by simp))
 have H5 := H3.later hb5; have b1 := hf.base_; have b2 := hb.base_; have htb' : w3.heap.size + 1 ≤ tb := by simpa using htb
 have hz1 : (w5.alloc (.cells (madeCells #[.bool false] N) 4)).heap.size = w5.heap.size + 1 := by simp
 have hz2 : ((w5.alloc (.cells (madeCells #[.bool false] N) 4)).alloc (.cells #[.slice none 0 0] 179)).heap.size = w5.heap.size + 1 + 1 := by simp
 have hB5 := H5.box.below; have hbA : Below w5.heap.size w5 (((w5.alloc (.cells (madeCells #[.bool false] N) 4)).alloc (.cells #[.slice none 0 0] 179)).alloc (.cells #[.pointer (some ⟨w5.heap.size + 1,0,none⟩)] 150)) := (((Below.refl _ _).alloc (Nat.le_refl _) _).alloc (by simp) _).alloc (by simp; omega) _
 have hHave : Have w (w5.heap.size + 1) (.slice none 0 0) [] (((w5.alloc (.cells (madeCells #[.bool false] N) 4)).alloc (.cells #[.slice none 0 0] 179)).alloc (.cells #[.pointer (some ⟨w5.heap.size + 1,0,none⟩)] 150)) := by
  have h := (Have.new (hB5.alloc hB5.size (.cells (madeCells #[.bool false] N) 4))).later ((Below.refl _ _).alloc (Nat.le_refl _) (.cells #[.pointer (some ⟨w5.heap.size + 1,0,none⟩)] 150)); rw [hz1] at h; exact h
 have hnv : (((w5.alloc (.cells (madeCells #[.bool false] N) 4)).alloc (.cells #[.slice none 0 0] 179)).alloc (.cells #[.pointer (some ⟨w5.heap.size + 1,0,none⟩)] 150)).heap[w5.heap.size + 1 + 1]? = some (.cells #[.pointer (some ⟨w5.heap.size + 1,0,none⟩)] 150 (0,0)) := by
  have h := heap_alloc_new ((w5.alloc (.cells (madeCells #[.bool false] N) 4)).alloc (.cells #[.slice none 0 0] 179)) (.cells #[.pointer (some ⟨w5.heap.size + 1,0,none⟩)] 150); rw [hz2] at h; exact h
 have hdr : (((w5.alloc (.cells (madeCells #[.bool false] N) 4)).alloc (.cells #[.slice none 0 0] 179)).alloc (.cells #[.pointer (some ⟨w5.heap.size + 1,0,none⟩)] 150)).rowIs w5.heap.size 4 N (fun _ => .bool false) := ((World.rowIs_made w5 (.bool false) N 4).alloc _).alloc _; have g1 := hL.lt; have g2 := hL.lt0; have g3 := hL.adj.lt; have g4 := hL.adj.ltc; have g5 := hL.adj.ge; have g5' : w3.heap.size + 1 ≤ L := by simpa using g5
 refine ⟨⟨⟨?_,hL.adj.lt,Z0a hL.adj.out hbA,(hbA.block co g4).trans hL.adj.var,fun i hi => Z06 (hL.adj.row i hi) hbA,hL.adj.apart⟩,(hbA.block g hL.box.lt).trans hL.box.blk,(hbA.block tb (Array.getElem?_eq_some_iff.1 hL.tree).1).trans hL.tree,?_,hnv,hl.later (hB5.trans (hbA.mono hB5.size)),
   ((hf.below hb5).below hbA).rebase (by omega),((hb.below hb5).below hbA).rebase (by omega),hHave,hne,by omega,by omega,by omega,g2,g1,g4,by omega,by omega,fun i hi k hk => (World.ownsRow.lt (hL.adj.row i hi) k hk).2,fun k hk => by cases hk⟩,
  ⟨hdr,(hbA.block _ (Array.getElem?_eq_some_iff.1 H5.res).1).trans H5.res,Nat.le_refl _,by omega,by omega,by simp,by omega,by omega,by omega,by have := hb5.size; omega,by have := hb5.size; omega,fun k hk => by cases hk⟩⟩
 ·have := hB5.size; have := H3.box.below.size; omega
 ·have h3 : (w3.alloc (.cells #[.slice (some ⟨gf,0,none⟩) N N,.slice (some ⟨gb,0,none⟩) N N] 117)).heap[w3.heap.size]? = some (.cells #[.slice (some ⟨gf,0,none⟩) N N,.slice (some ⟨gb,0,none⟩) N N] 117 (0,0)) := heap_alloc_new _ _
  have h4 := (hL.box.below.block w3.heap.size (by simp)).trans h3
  exact (hbA.block w3.heap.size (Array.getElem?_eq_some_iff.1 h4).1).trans h4
theorem Znc (N s len cap : Nat) (l : List Ar) (a : Option Addr) (w : World) (hs : s < N) (hc : Z15 (N : Int) l = 0) (hw0 : ∀ x ∈ l,0 ≤ x.2.2) (hl : IsArcs w.heap.size w a len l) :
  Calls Tryz.prog 65 #[.agg #[.int .i64 (N : Int),.slice a len cap],.int .i64 (s : Int)] w (Zo1 l s N w) := by
 obtain ⟨⟨_,hN0,hlen0⟩,hok⟩ := checkV_zero.1 hc; have hN : N ≤ 1000 := by omega
 have hlen : len ≤ 20000 := by have := hl.1; omega
 have hs1 : (0 : Int) ≤ (s : Int) := by omega
 have hs2 : (s : Int) < (N : Int) := by omega
 have HE := hid (Z7o hc ⟨hs1,hs2⟩); have HOK := hid hok; have HWT := hid hw0; have HL := hid hl; have HB0 := hid (NrBox.make w N a len cap); have hmk := run_make_row' (P := Tryz.prog) 70 4 (.bool false) 1 Tryz.underlying70 Zl8 rfl .i64 .i64 N (by omega) (by omega)
 clear hc hok hw0 hl hN0 hlen0; go_enter Tryz.func65,Tryz.ntmps65
 go_wp2_with (first
  | (go_at_call 85; refine (Zfu (N : Int) (s : Int) a cap _ (HB0.out.box.arcsHere HL.out)).mono ?_; rw [HE.out]; rintro e w1 ⟨rfl,hb1⟩; have HB1 := hid (HB0.out.later hb1); have y0 := HB1.out.box.c0; have y1 := HB1.out.box.c1; clear hb1)
  | (go_at_call 86; refine (Z59 hlen HWT.out (HB1.out.box.arcsHere HL.out)).mono ?_; rintro e w2 ⟨rfl,hb2⟩; clear y0 y1; have HB2 := hid (HB1.out.later hb2); have y0 := HB2.out.box.c0; have y1 := HB2.out.box.c1; clear hb2)
  | (go_at_call 88; refine (Zh4 N s hs hN _).mono ?_; rintro e w3 ⟨gf,gb,rfl,hf,hg,hne,hb3⟩; clear y0 y1; have HB3 := hid (HB2.out.later hb3); have HB3a := hid (HB3.out.later ((Below.refl w3.heap.size w3).alloc (Nat.le_refl _) (.cells #[.slice (some ⟨gf,0,none⟩) N N,.slice (some ⟨gb,0,none⟩) N N] 117))); have y0 := HB3a.out.box.c0; have y1 := HB3a.out.box.c1; have HF3 := hid hf; have HG3 := hid hg; have HNE := hid hne; clear hb3 hf hg hne)
  | (go_at_call 89; refine (Zfo N hN hlen HOK.out a cap _ _ _ (HB3a.out.box.arcsHere HL.out)).mono ?_; rintro e w5 ⟨tb,g,co,L,V,rfl,hL,htb⟩; clear y0 y1; have HB5 := hid (HB3a.out.later (hL.box.below)); have y0 := HB5.out.box.c0; obtain ⟨hNW,hNP⟩ := Zfq HB3.out HL.out HF3.out HG3.out HNE.out (by have := (Array.getElem?_eq_some_iff.1 HB2.out.res).1; omega) hL htb; have HNW := hid hNW; have HNP := hid hNP; have nc := hNW.nc; clear hL htb hNW hNP)
  | (go_at_call 90; refine (Znh _).mono ?_; rintro e w6 ⟨rfl,rfl⟩))
 obtain ⟨w8,hw8⟩ : ∃ w8,(((w5.alloc (.cells (madeCells #[.bool false] N) 4)).alloc (.cells #[.slice none 0 0] 179)).alloc (.cells #[.pointer (some ⟨w5.heap.size + 1,0,none⟩)] 150)) = w8 := ⟨_,rfl⟩; obtain ⟨b,hb⟩ : ∃ b,w5.heap.size + 1 = b := ⟨_,rfl⟩; obtain ⟨nx,hnx⟩ : ∃ nx,b + 1 = nx := ⟨_,rfl⟩; obtain ⟨K,hK⟩ : ∃ K,w5.heap.size = K := ⟨_,rfl⟩; obtain ⟨tn,htn⟩ : ∃ tn,w3.heap.size = tn := ⟨_,rfl⟩; rw [hw8,hb,hnx] at HNW HNP nc; rw [hK] at HNW HNP; rw [htn] at HNW; rw [hw8,hb,hnx,hK,htn]; have HS0 := hid (SrchH.begin_ (l := l) hs); clear hw8 hb hnx hK htn y0 HB0 HB1 HB2 HB3a HF3 HG3 HNE HB5 HB3 hmk; have HLE := hid (Zc1 (N := N) (l := l)); have HLL := hid HL.out.1; go_wp2_with (first
  | (go_at_call 91; refine (Zd8 (0,(s : Int)) HNW.out.pile (by simp)).mono ?_; rintro e w9 ⟨rfl,v9,hP,hT⟩; have HNW9 := hid (HNW.out.piled hP hT); have HNP9 := hid (HNP.out.piled hT); have nc9 := HNW9.out.nc; clear nc hP hT)
  | (go_at_call 92; refine (Z6m HNW9.out.pile (by simp)).mono ?_; rintro e w10 ⟨ok,x,p,v10,rfl,ht,hP,hT⟩; have HT := hid ht; have HNWT := hid (HNW9.out.piled hP hT); have HNPT := hid (HNP9.out.piled hT); clear nc9 ht hP hT))
 have HXT := hid (BxN.new HNPT.out (fun k hk => (HNWT.out.pile.own k hk).2) x); have HW0 := hid (HNWT.out.later ((Below.refl _ _).alloc (Nat.le_refl _) (.cells #[.int .i64 x.1,.int .i64 x.2] 154))); have HP0 := hid (HNPT.out.later ((Below.refl _ _).alloc (Nat.le_refl _) (.cells #[.int .i64 x.1,.int .i64 x.2] 154))); have HH0 := hid (Z8o (gn := 20002) HT.out HS0.out (by have := HLE.out; have := HLL.out; simp; omega) (Nat.le_refl _))
 have HW0' : Hid (NearW w (w10.alloc (.cells #[.int .i64 x.1,.int .i64 x.2] 154)) K co g tb tn nx gf N gb N L b N a len cap V l (valI (fun i => if i = s then some 0 else none)) (fun _ => -1) v10 p) := HW0
 clear HT HNWT HNPT HNW HNP HNW9 HNP9 HS0 HW0 HLE HLL hs1 hs2; go_loopg [11,12] 20002 (fun gn xp okv wr => ∃ (far : Nat → Option Int) (by_ : Nat → Int) (dn : Nat → Bool) (x : It) (p : List It) (v : Value) (bx : Nat) (ok : Bool),xp = .pointer (some ⟨bx,0,none⟩) ∧ okv = .bool ok ∧ Hid (NearW w wr K co g tb tn nx gf N gb N L b N a len cap V l (valI far) by_ v p) ∧ Hid (NearP w wr K K (w.heap.size + 1) N b nx gf gb dn v) ∧ Hid (BxN wr nx v bx x) ∧ Hid (HeadN l s N far dn x p ok gn))
 case atStart => exact ⟨_,_,_,x,p,v10,_,ok,rfl,rfl,HW0',HP0,HXT,HH0⟩
 case round =>
  clear HXT HW0' HP0 HH0; obtain ⟨far,by_,dn,x,p,v,bx,ok,rfl,rfl,HW,HP,HX,HH⟩ := hrel; cases ok with
  | false =>
   have HD : Hid (SrchH l s N far dn []) := hid (by
    rcases HH.out with ⟨e,_⟩ | ⟨_,e,_⟩
    ·cases e
    ·exact e)
   have q0 := HW.out.n0; have q1 := HW.out.n1; have HRES := hid HP.out.res; have r0 : wr.cell? ⟨w.heap.size + 1,0,none⟩ = some (.slice none 0 0) := (by simp [World.cell?,HRES.out])
   have r1 : wr.cell? ⟨w.heap.size + 1,1,none⟩ = some (.slice none 0 0) := (by simp [World.cell?,HRES.out])
   have r2 : ∀ k,wr.frozen? ⟨w.heap.size + 1,k,none⟩ = false := (fun k => by simp [World.frozen?,HRES.out])
   clear HH; go_wp2_with fail
   have hm : Mod (fun k => k = w.heap.size + 1) wr ((wr.setCell ⟨w.heap.size + 1,0,none⟩ (.slice (some ⟨gf,0,none⟩) N N)).setCell ⟨w.heap.size + 1,1,none⟩ (.slice (some ⟨gb,0,none⟩) N N)) := ((Mod.refl (fun k => k = w.heap.size + 1) wr).setCell (p := ⟨w.heap.size + 1,0,none⟩) (.inr rfl) _).setCell (p := ⟨w.heap.size + 1,1,none⟩) (.inr rfl) _; have h2 := HP.out.r2; have h3 := HP.out.r3; obtain ⟨_,g0,g1⟩ := Z69 HRES.out (.slice (some ⟨gf,0,none⟩) N N) (.slice (some ⟨gb,0,none⟩) N N); refine bodyPost_ret (v := .tuple #[.agg #[.slice (some ⟨gf,0,none⟩) N N,.slice (some ⟨gb,0,none⟩) N N],.int .i64 0]) ?_ rfl ⟨((Mod.of_below (fun k => k = w.heap.size + 1) HW.out.pile.below).trans hm).below (Nat.le_refl _) (fun k (e : k = w.heap.size + 1) => by omega),gf,N,_,far,dn,by_,rfl,HW.out.far.kept hm (fun k hk (e : k = w.heap.size + 1) => ?_),HW.out.by_.kept hm (fun k hk (e : k = w.heap.size + 1) => ?_),HD.out⟩
   ·simp [results,Tryz.results65,go_sem,g0,g1]
   ·have e2 : gf = k := Option.some.inj hk
    omega
   ·have e2 : gb = k := Option.some.inj hk
    omega
  | true =>
   obtain ⟨hsz,hgn,hS,hmin⟩ : ((p.length : Int) + 1 + leftD N l dn < gk) ∧ gk ≤ 20002 ∧ SrchH l s N far dn (x :: p) ∧ ∀ y ∈ p,x.1 ≤ y.1 := by
    rcases HH.out with ⟨_,e⟩ | ⟨e,_⟩
    ·exact e
    ·cases e
   have hph := Z54 (N := N) (l := l) (dn := dn); obtain ⟨u,du,hu2,huN,_,_⟩ := hS.base.items x (by simp)
   obtain ⟨κ,xi⟩ := x; simp only at hu2 hmin
   subst hu2; have HS := hid hS; have HMIN := hid hmin; obtain ⟨c0,c1⟩ := HX.out.cells; simp only at c0 c1
   have r0 := HP.out.dr.cell huN; have f1 := HP.out.dr.frozen u; have hu1 : (0 : Int) ≤ (u : Int) := by omega
   have hu3 : (u : Int) < (N : Int) := by omega
   clear HH hS hmin; cases hd : dn u with
   | true =>
    rw [hd] at r0; have HD := hid (HS.out.skip rfl hd); clear hd; have HXN := hid (BxN.new HP.out (fun k hk => (HW.out.pile.own k hk).2) (κ,(u : Int))); have HWN := hid (HW.out.later ((Below.refl _ _).alloc (Nat.le_refl _) (.cells #[.int .i64 κ,.int .i64 (u : Int)] 154))); have HPN := hid (HP.out.later ((Below.refl _ _).alloc (Nat.le_refl _) (.cells #[.int .i64 κ,.int .i64 (u : Int)] 154))); have nc := HWN.out.nc; have HSQ := hid (show p.length ≤ 50000 from by omega)
    go_wp2_with (go_at_call 92; refine (Z6m HWN.out.pile HSQ.out).mono ?_; rintro e w8 ⟨ok,y,q,v8,rfl,ht,hP,hT⟩; have HT := hid ht; have HW8 := hid (HWN.out.piled hP hT); have HP8 := hid (HPN.out.piled hT); have HX8 := hid (HXN.out.piled HPN.out hT); obtain ⟨y0,y1⟩ := HX8.out.cells; simp only at y0 y1; have y2 := HX8.out.frozen 0; have y3 := HX8.out.frozen 1; clear nc ht hP hT)
    go_roundg (gk - 1)
    case measure => omega
    case rel => exact ⟨_,_,_,y,q,v8,_,ok,rfl,rfl,hid (HW8.out.put_ HX8.out y),hid (HP8.out.put_ HX8.out y),hid (HX8.out.put_ y),hid (Z8o HT.out HD.out (by omega) (by omega))⟩
   | false =>
    rw [hd] at r0; obtain ⟨_,hI⟩ := HS.out.take_ HMIN.out rfl hd; have HI := hid hI; have hlm := Zfr (l := l) huN hd; clear hd hI; have HWM := hid (HW.out.mark HP.out u); have HPM := hid (HP.out.mark u); have HXM := hid (HX.out.mark HP.out u); obtain ⟨d0,d1⟩ := HXM.out.cells; simp only at d0 d1
    obtain ⟨lm,hlm2⟩ : ∃ z,leftD N l (markN dn u) = z := ⟨_,rfl⟩; have HLM := hid hlm2; have hlm3 := Z54 (N := N) (l := l) (dn := markN dn u); rw [hlm2] at hlm hlm3; obtain ⟨dg,hdg⟩ : ∃ z,(outK l u).length = z := ⟨_,rfl⟩; have HDG := hid hdg; rw [hdg] at hlm; have HQL : Hid (p.length + (outK l u).length ≤ 50000) := hid (by omega)
    have HLM2 := hid hlm; clear hlm2 hdg hlm; go_wp2_with (first
     | (go_at_call 118; refine (Zan hN hlen HOK.out HWT.out huN HQL.out _ HWM.out HI.out).mono ?_; rintro e w6 ⟨rfl,far2,by2,v2,Q2,hW6,hS6,hq6,hM6,hF6⟩; have HW6 := hid hW6; have HP6 := hid (HPM.out.look hM6 hF6); have HX6 := hid (HXM.out.look HPM.out hM6 hF6); have HS6 := hid (hS6.done (Nat.le_refl _)); have HQ6 := hid hq6; obtain ⟨e0,e1⟩ := HX6.out.cells; simp only at e0 e1; have HXN := hid (BxN.new HP6.out (fun k hk => (HW6.out.pile.own k hk).2) (κ,(u : Int))); have HWN := hid (HW6.out.later ((Below.refl _ _).alloc (Nat.le_refl _) (.cells #[.int .i64 κ,.int .i64 (u : Int)] 154))); have HPN := hid (HP6.out.later ((Below.refl _ _).alloc (Nat.le_refl _) (.cells #[.int .i64 κ,.int .i64 (u : Int)] 154))); have nc := HWN.out.nc; have HSQ : Hid (Q2.length ≤ 50000) := hid (by have := HQL.out; have := HQ6.out; omega); clear c0 c1 d0 d1 r0 hW6 hS6 hq6 hM6 hF6)
     | (go_at_call 92; refine (Z6m HWN.out.pile HSQ.out).mono ?_; rintro e w8 ⟨ok,y,q,v8,rfl,ht,hP,hT⟩; have HT := hid ht; have HW8 := hid (HWN.out.piled hP hT); have HP8 := hid (HPN.out.piled hT); have HX8 := hid (HXN.out.piled HPN.out hT); obtain ⟨y0,y1⟩ := HX8.out.cells; simp only at y0 y1; have y2 := HX8.out.frozen 0; have y3 := HX8.out.frozen 1; clear nc ht hP hT))
    go_roundg (gk - 1)
    case measure => omega
    case rel => exact ⟨_,_,_,y,q,v8,_,ok,rfl,rfl,hid (HW8.out.put_ HX8.out y),hid (HP8.out.put_ HX8.out y),hid (HX8.out.put_ y),hid (Z8o HT.out HS6.out (by have h1 := HLM.out; have h2 := HLM2.out; have h3 := HDG.out; have h4 := HQ6.out; omega) (by omega))⟩
end Go.Proofs.YtfkommjlmolniaaGreatDoor
end
section

namespace Go.Proofs.YtfkommjlmolniaaGreatDoor
open Go.RowKit
def IsSets (B : Nat) (w : World) (a : Option Addr) (len : Nat) (zs : List Nat) : Prop := zs.length = len ∧ (∀ z ∈ zs,z < 18446744073709551616) ∧ (len = 0 ∨ ∃ b off,a = some ⟨b,off,none⟩ ∧ b < B ∧ ∀ (j : Nat) (z : Nat),zs[j]? = some z → w.cell? ⟨b,off + j,none⟩ = some (.int .u64 (z : Int)))
theorem IsSets.later {B : Nat} {w w2 : World} {a : Option Addr} {len : Nat} {zs : List Nat} (h : IsSets B w a len zs) (hb : Below B w w2) : IsSets B w2 a len zs := ⟨h.1,h.2.1,by
 rcases h.2.2 with h | ⟨b,off,e,h1,h2⟩
 ·exact .inl h
 ·exact .inr ⟨b,off,e,h1,fun j z hz => (hb.cell (p := ⟨b,off + j,none⟩) h1).trans (h2 j z hz)⟩⟩
theorem IsSets.mono {B B2 : Nat} {w : World} {a : Option Addr} {len : Nat} {zs : List Nat} (h : IsSets B w a len zs) (hb : B ≤ B2) : IsSets B2 w a len zs := ⟨h.1,h.2.1,by
 rcases h.2.2 with h | ⟨b,off,e,h1,h2⟩
 ·exact .inl h
 ·exact .inr ⟨b,off,e,by omega,h2⟩⟩
def Nums (w : World) (P : List Int → Prop) (e : Ending) (w' : World) : Prop := ∃ (l : List Int) (a : Option Addr) (c : Nat),e = .returned (.slice a l.length c) ∧ IsNums w'.heap.size w' a l.length l ∧ P l ∧ Below w.heap.size w w'
def Empty (w : World) (e : Ending) (w' : World) : Prop := ∃ (a : Option Addr) (c : Nat),e = .returned (.slice a 0 c) ∧ Below w.heap.size w w'
def Z7u (x : Ins) (zs : List Nat) : Prop := zs.length = x.sats.length ∧ ∃ p,MayOf x p ∧ ∀ s z,zs[s]? = some z → ∀ c,c < 64 → z.testBit c = (decide (c < x.cus.length) && p s c)
structure ReachSpec : Prop where
 ready : ∀ (A : InA) (x : Ins) (w : World),IsIns w.heap.size w A x → May x → Calls Tryz.prog 30 #[.agg (insC A x)] w (Nums w (ReadyOf x))
 out : ∀ (A : InA) (x : Ins) (s : Nat) (w : World),IsIns w.heap.size w A x → May x → s < x.sats.length → Calls Tryz.prog 66 #[.agg (insC A x),.int .i64 (s : Int)] w (Nums w (OutOf x s))
 back : ∀ (A : InA) (x : Ins) (s : Nat) (w : World),IsIns w.heap.size w A x → May x → s < x.sats.length → Calls Tryz.prog 67 #[.agg (insC A x),.int .i64 (s : Int)] w (Nums w (BackOf x s))
 mays : ∀ (A : InA) (x : Ins) (w : World),IsIns w.heap.size w A x → May x → Calls Tryz.prog 32 #[.agg (insC A x)] w fun e w' => ∃ (zs : List Nat) (a : Option Addr) (c : Nat),e = .returned (.slice a zs.length c) ∧ IsSets w'.heap.size w' a zs.length zs ∧ Z7u x zs ∧ Below w.heap.size w w'
 readyNo : ∀ (A : InA) (x : Ins) (w : World),IsIns w.heap.size w A x → x.cost.length ≤ 9223372036854775807 → x.time.length ≤ 9223372036854775807 → Z0m x ≠ 0 → Calls Tryz.prog 30 #[.agg (insC A x)] w (Empty w)
 outNo : ∀ (A : InA) (x : Ins) (s : Int) (w : World),IsIns w.heap.size w A x → x.cost.length ≤ 9223372036854775807 → x.time.length ≤ 9223372036854775807 → Fits s → (Z0m x ≠ 0 ∨ s < 0 ∨ (x.sats.length : Int) ≤ s) → Calls Tryz.prog 66 #[.agg (insC A x),.int .i64 s] w (Empty w)
 backNo : ∀ (A : InA) (x : Ins) (s : Int) (w : World),IsIns w.heap.size w A x → x.cost.length ≤ 9223372036854775807 → x.time.length ≤ 9223372036854775807 → Fits s → (Z0m x ≠ 0 ∨ s < 0 ∨ (x.sats.length : Int) ≤ s) → Calls Tryz.prog 67 #[.agg (insC A x),.int .i64 s] w (Empty w)
 maysNo : ∀ (A : InA) (x : Ins) (w : World),IsIns w.heap.size w A x → x.cost.length ≤ 9223372036854775807 → x.time.length ≤ 9223372036854775807 → Z0m x ≠ 0 → Calls Tryz.prog 32 #[.agg (insC A x)] w (Empty w)
end Go.Proofs.YtfkommjlmolniaaGreatDoor
end
section

namespace Go.Proofs.YtfkommjlmolniaaGreatDoor
open Go.Lib (hid)
open Go.RowKit
variable {w : World} {A : InA} {x : Ins}
def Z2j (l : List Pi) : Nat → Int
 | 0 => 0
 | k + 1 => wrap64 (Z2j l k + (l.getD k (0,0,0,0)).1)
theorem Z11 {α : Type} {l : List α} {k : Nat} {x d : α} (h : l[k]? = some x) : l.getD k d = x := by simp [List.getD,h]
theorem Zaf (A : InA) (x : Ins) (w : World) (h : x.sats.length + x.cus.length ≤ 1000) :
  Calls Tryz.prog 39 #[.agg (insC A x)] w fun e w' => e = .returned (.int .i64 ((1 + x.sats.length + x.cus.length : Nat) : Int)) ∧ Below w.heap.size w w' := by
 have HB := hid ((Below.refl w.heap.size w).alloc (Nat.le_refl _) (.cells (insC A x) 34)); unfold insC at *; go_enter Tryz.func39,Tryz.ntmps39
 go_wp2_with fail
 go_ret
 exact ⟨by simp,HB.out⟩
theorem Znz (A : InA) (x : Ins) (N : Nat) (hN : x.nodes = N) (w : World) (h : x.sats.length + x.cus.length ≤ 1000) :
  Calls Tryz.prog 39 #[.agg (insC A x)] w fun e w' => e = .returned (.int .i64 (N : Int)) ∧ Below w.heap.size w w' := by
 subst hN; exact Zaf A x w h
theorem Z13 (A : InA) (x : Ins) (s : Int) (w : World) (h : x.sats.length ≤ 1000) :
  Calls Tryz.prog 49 #[.agg (insC A x),.int .i64 s] w fun e w' => e = .returned (.int .i64 (wrap64 (1 + (x.sats.length : Int) + s))) ∧ Below w.heap.size w w' := by
 have HB := hid ((Below.refl w.heap.size w).alloc (Nat.le_refl _) (.cells (insC A x) 34)); unfold insC at *; go_enter Tryz.func49,Tryz.ntmps49
 go_wp2_with fail
 go_ret
 exact ⟨rfl,HB.out⟩
end Go.Proofs.YtfkommjlmolniaaGreatDoor
end
section

namespace Go.Proofs.YtfkommjlmolniaaGreatDoor
open Go.Lib (hid)
open Go.RowKit
variable {w : World} {A : InA} {x : Ins}
theorem Z4v (A : InA) (x : Ins) (s : Int) (w : World) :
  Calls Tryz.prog 73 #[.agg (insC A x),.int .i64 s] w fun e w' => e = .returned (.int .i64 (wrap64 (1 + s))) ∧ Below w.heap.size w w' := by
 have HB := hid ((Below.refl w.heap.size w).alloc (Nat.le_refl _) (.cells (insC A x) 34)); unfold insC at *; go_enter Tryz.func73,Tryz.ntmps73
 go_wp2_with fail
 go_ret
 exact ⟨rfl,HB.out⟩
end Go.Proofs.YtfkommjlmolniaaGreatDoor
end
section

namespace Go.Proofs.YtfkommjlmolniaaGreatDoor
set_option maxHeartbeats 16000000
set_option maxRecDepth 100000
open Go.Lib (hid)
open Go.RowKit
variable {w wr w2 : World} {A : InA} {x : Ins} {B g sb nb s i k p q : Nat}
def nodeP (x : Ins) (s p : Nat) : Nat := if p = 0 then 1 + s else x.sats.length + p
theorem Z3v : nodeP x s 0 = 1 + s := rfl
theorem Z3g (h : 0 < p) : nodeP x s p = x.sats.length + p := by unfold nodeP; rw [if_neg (by omega)]
theorem Z30 (hs : s < x.sats.length) (hp : p < 1 + x.cus.length) : nodeP x s p < x.nodes := by
 unfold nodeP Ins.nodes; split <;> omega
def takeP (x : Ins) (s p q : Nat) : Int := styI x (nodeP x s p) + tmI x (nodeP x s p) (nodeP x s q)
structure InH (B : Nat) (W : World) (g : Nat) (A : InA) (x : Ins) : Prop where
 blk : W.heap[g]? = some (.cells (insC A x) 34 (0,0))
 ins : IsIns B W A x
 le : B ≤ W.heap.size
theorem InH.later (h : InH B w g A x) (hb : Below w.heap.size w w2) : InH B w2 g A x := ⟨(hb.block g (Array.getElem?_eq_some_iff.1 h.blk).1).trans h.blk,h.ins.later (hb.mono h.le),Nat.le_trans h.le hb.size⟩
theorem InH.here (h : InH B w g A x) : IsIns w.heap.size w A x := h.ins.mono h.le
theorem InH.cells (h : InH B w g A x) : w.cell? ⟨g,0,none⟩ = some (.int .i64 x.en) ∧ w.cell? ⟨g,1,none⟩ = some (.int .i64 x.tm) ∧ w.cell? ⟨g,2,none⟩ = some (.int .i64 x.tr) ∧ w.cell? ⟨g,3,none⟩ = some (.int .i64 x.bm) ∧ w.cell? ⟨g,4,none⟩ = some (.int .i64 x.br) ∧
  w.cell? ⟨g,5,none⟩ = some (.slice A.sa x.sats.length A.sc) ∧ w.cell? ⟨g,6,none⟩ = some (.slice A.ca x.cus.length A.cc) ∧ w.cell? ⟨g,7,none⟩ = some (.slice A.ka x.cost.length A.kc) ∧ w.cell? ⟨g,8,none⟩ = some (.slice A.ta x.time.length A.tc) := by
 simp [World.cell?,h.blk]
theorem InH.time_at (h : InH B w g A x) (hm : May x) (hi : i < x.nodes) (hk : k < x.nodes) : ∃ b o rb ro rc n,A.ta = some ⟨b,o,none⟩ ∧ w.cell? ⟨b,o + i,none⟩ = some (.slice (some ⟨rb,ro,none⟩) n rc) ∧ n = x.nodes ∧ w.cell? ⟨rb,ro + k,none⟩ = some (.int .i64 (tmI x i k)) ∧ b < w.heap.size ∧ rb < w.heap.size := by
 obtain ⟨b,o,r,ra,rc,e,hb,hr,_,hc,hn⟩ := h.ins.time.at_ (k := i) (by rw [hm.lt]; exact hi)
 have hl := (hm.time i r hr).1; have hle := h.le; rcases hn.2 with h0 | ⟨rb,ro,e2,hrb,hc2⟩
 ·omega
 ·subst e2
  have hkl : k < r.length := by omega
  refine ⟨b,o,rb,ro,rc,r.length,e,hc,hl,?_,by omega,by omega⟩
  rw [hc2 k r[k] (List.getElem?_eq_getElem hkl)]; simp only [tmI,List.getD,hr,Option.getD_some,List.getElem?_eq_getElem hkl]
theorem Zis (hm : May x) (W : World) (hW : InH B W g A x) (i k : Nat) (hi : i < x.nodes) (hk : k < x.nodes) :
  Calls Tryz.prog 48 (#[.int .i64 (i : Int),.int .i64 (k : Int)] ++ #[.pointer (some ⟨g,0,none⟩)]) W fun e w' => e = .returned (.int .i64 (tmI x i k)) ∧ Below W.heap.size W w' := by
 obtain ⟨b,o,rb,ro,rc,n,hta,c1,hn,c2,_,_⟩ := hW.time_at hm hi hk; obtain ⟨_,_,_,_,_,_,_,_,c8⟩ := hW.cells; have hlt := hm.lt; have h61 := Z29 hm; have i1 : (0 : Int) ≤ (i : Int) := by omega
 have i2 : (i : Int) < (x.time.length : Int) := by omega
 have k1 : (0 : Int) ≤ (k : Int) := by omega
 have k2 : (k : Int) < (n : Int) := by omega
 rw [hta] at c8; generalize x.time.length = tl at *; generalize tmI x i k = z at *; clear hta hlt hn hm hW hi hk h61; rw [show (#[.int .i64 (i : Int),.int .i64 (k : Int)] ++ #[.pointer (some ⟨g,0,none⟩)] : Array Value) = #[.int .i64 (i : Int),.int .i64 (k : Int),.pointer (some ⟨g,0,none⟩)] from rfl]
 go_enter Tryz.func48,Tryz.ntmps48
 go_wp2_with fail
 go_ret
 exact ⟨rfl,Below.refl _ _⟩
structure RoH (B : Nat) (W : World) (g sb nb : Nat) (A : InA) (x : Ins) (s : Nat) : Prop where
 inh : InH B W g A x
 sat : W.heap[sb]? = some (.cells #[.int .i64 (s : Int)] 3 (0,0))
 fn : W.heap[nb]? = some (.cells #[.func (.func 122) #[] #[.pointer (some ⟨g,0,none⟩),.pointer (some ⟨sb,0,none⟩)]] 79 (0,0))
theorem RoH.later (h : RoH B w g sb nb A x s) (hb : Below w.heap.size w w2) : RoH B w2 g sb nb A x s :=
 ⟨h.inh.later hb,(hb.block sb (Array.getElem?_eq_some_iff.1 h.sat).1).trans h.sat,(hb.block nb (Array.getElem?_eq_some_iff.1 h.fn).1).trans h.fn⟩
theorem RoH.cells (h : RoH B w g sb nb A x s) : w.cell? ⟨g,8,none⟩ = some (.slice A.ta x.time.length A.tc) ∧ w.cell? ⟨g,6,none⟩ = some (.slice A.ca x.cus.length A.cc) ∧ w.cell? ⟨sb,0,none⟩ = some (.int .i64 (s : Int)) ∧
  w.cell? ⟨nb,0,none⟩ = some (.func (.func 122) #[] #[.pointer (some ⟨g,0,none⟩),.pointer (some ⟨sb,0,none⟩)]) := by
 obtain ⟨_,_,_,_,_,_,c6,_,c8⟩ := h.inh.cells; exact ⟨c8,c6,by simp [World.cell?,h.sat],by simp [World.cell?,h.fn]⟩
theorem Zaw (hm : May x) (W : World) (hW : RoH B W g sb nb A x s) (hs : s < x.sats.length) (p : Nat) (hp : p < 1 + x.cus.length) :
  Calls Tryz.prog 122 #[.int .i64 (p : Int),.pointer (some ⟨g,0,none⟩),.pointer (some ⟨sb,0,none⟩)] W fun e w' => e = .returned (.int .i64 ((nodeP x s p : Nat) : Int)) ∧ Below W.heap.size W w' := by
 have hns := hm.ns; have hnc := hm.nc; obtain ⟨c0,c1,c2,c3,c4,c5,c6,c7,c8⟩ := hW.inh.cells; obtain ⟨_,_,s0,_⟩ := hW.cells; by_cases h0 : p = 0
 ·subst h0
  have HV : Hid (wrap64 (1 + (s : Int)) = ((nodeP x s 0 : Nat) : Int)) := hid (by rw [Z3v]; unfold wrap64; omega)
  clear hW hm hns hnc hs hp; go_enter Tryz.func122,Tryz.ntmps122
  go_wp2_with (go_at_call 73; refine (Z4v A x (s : Int) _).mono ?_; rw [HV.out]; rintro e w3 ⟨rfl,hb3⟩)
  go_ret
  exact ⟨rfl,hb3⟩
 ·have hp0 : ((p : Int) == 0) = false := by simpa using (show ¬ (p : Int) = 0 by omega)
  have hpn : ¬ (p : Int) = 0 := by omega
  have HV : Hid (wrap64 (1 + (x.sats.length : Int) + ((p : Int) - 1)) = ((nodeP x s p : Nat) : Int)) := hid (by rw [Z3g (by omega)]; unfold wrap64; omega)
  have HSL := hid (show x.sats.length ≤ 1000 by omega)
  have hpw : IntKind.i64.wrap ((p : Int) - 1) = (p : Int) - 1 := by rw [IntKind.wrap_i64]; omega
  clear hW hm hns hnc hs hp h0; go_enter Tryz.func122,Tryz.ntmps122
  go_wp2_with (go_at_call 49; refine (Z13 A x ((p : Int) - 1) _ HSL.out).mono ?_; rw [HV.out]; rintro e w3 ⟨rfl,hb3⟩)
  go_ret
  exact ⟨rfl,hb3⟩
theorem Zfy (hm : May x) (hs : s < x.sats.length) (hp : 0 < p) (h : IsIns B w A x) (hp2 : p < 1 + x.cus.length) : ∃ b o y,A.ca = some ⟨b,o,none⟩ ∧ w.cell? ⟨b,o + (p - 1) * 4 + 3,none⟩ = some (.int .i64 y) ∧ styI x (nodeP x s p) = y ∧ 0 ≤ y ∧ y ≤ 1000000000 := by
 obtain ⟨b,o,y,e,_,hy,_,_,_,c3⟩ := h.cus.at_ (k := p - 1) (by omega)
 have hst : styI x (nodeP x s p) = y.2.2.2 := by
  rw [Z3g hp]; unfold styI; rw [if_neg (by omega),show x.sats.length + p - (1 + x.sats.length) = p - 1 by omega,List.getD,hy,Option.getD_some]
 have hin := hm.sty_in (i := nodeP x s p) (Z30 hs hp2); rw [hst] at hin; exact ⟨b,o,y.2.2.2,e,c3,hst,hin.1,hin.2⟩
theorem Zlm (hs : s < x.sats.length) : styI x (nodeP x s 0) = 0 := by
 rw [Z3v]; unfold styI; rw [if_pos (by omega)]
theorem Zit (hm : May x) (W : World) (hW : RoH B W g sb nb A x s) (hs : s < x.sats.length) (p q : Nat) (hp : p < 1 + x.cus.length) (hq : q < 1 + x.cus.length) :
  Calls Tryz.prog 123 (#[.int .i64 (p : Int),.int .i64 (q : Int)] ++ #[.pointer (some ⟨g,0,none⟩),.pointer (some ⟨nb,0,none⟩)]) W fun e w' => e = .returned (.int .i64 (takeP x s p q)) ∧ Below W.heap.size W w' := by
 have hnp := Z30 hs hp; have hnq := Z30 hs hq; have h61 := Z29 hm; have hlt := hm.lt; have htm := hm.tm_in hnp hnq; have HC1 := hid (fun (W' : World) (h : RoH B W' g sb nb A x s) => Zaw hm W' h hs p hp); have HC2 := hid (fun (W' : World) (h : RoH B W' g sb nb A x s) => Zaw hm W' h hs q hq); have HW0 : Hid (RoH B W.drew g sb nb A x s) := hid (hW.later (Below.refl _ _).drew); obtain ⟨b,o,rb,ro,rc,nn,hta,e1,hnn,e2,hbl,hrl⟩ := hW.inh.time_at hm hnp hnq; have HST := hid (fun (W' : World) (h : RoH B W' g sb nb A x s) (h0 : 0 < p) => Zfy (w := W') hm hs h0 h.inh.ins hp); have HS0 := hid (Zlm hs); have hpc : p ≤ x.cus.length := by omega
 have hnc := hm.nc; have HTK : Hid (takeP x s p q = styI x (nodeP x s p) + tmI x (nodeP x s p) (nodeP x s q)) := hid rfl; obtain ⟨tk,htk⟩ : ∃ z,takeP x s p q = z := ⟨_,rfl⟩; obtain ⟨st,hst⟩ : ∃ z,styI x (nodeP x s p) = z := ⟨_,rfl⟩; obtain ⟨z,hz⟩ : ∃ z,tmI x (nodeP x s p) (nodeP x s q) = z := ⟨_,rfl⟩; obtain ⟨n1,hn1⟩ : ∃ n,nodeP x s p = n := ⟨_,rfl⟩; obtain ⟨n2,hn2⟩ : ∃ n,nodeP x s q = n := ⟨_,rfl⟩; rw [htk,hst,hz] at HTK; rw [htk]; rw [hz] at htm e2; rw [hn1] at HC1 hnp hst hz HST e1; rw [hn2] at HC2 hnq hz e2; rw [hst] at HST; have HSZ : Hid (p = 0 → st = 0) := hid (fun e => by subst e; rw [← hst,← hn1]; exact HS0.out)
 have i1 : (0 : Int) ≤ (n1 : Int) := by omega
 have i2 : (n1 : Int) < (x.time.length : Int) := by omega
 have k1 : (0 : Int) ≤ (n2 : Int) := by omega
 have k2 : (n2 : Int) < (nn : Int) := by omega
 clear hW hm hs hp hq hlt hnp hnq hst hz hn1 hn2 htk h61 HS0 hnn; rw [show (#[.int .i64 (p : Int),.int .i64 (q : Int)] ++ #[.pointer (some ⟨g,0,none⟩),.pointer (some ⟨nb,0,none⟩)] : Array Value) = #[.int .i64 (p : Int),.int .i64 (q : Int),.pointer (some ⟨g,0,none⟩),.pointer (some ⟨nb,0,none⟩)] from rfl]
 go_enter Tryz.func123,Tryz.ntmps123
 go_wp2_with fail
 have E1 := hid (show ∀ Wz,Below W.heap.size W Wz → Wz.cell? ⟨b,o + n1,none⟩ = some (.slice (some ⟨rb,ro,none⟩) nn rc) from fun Wz h => (h.cell (p := ⟨b,o + n1,none⟩) hbl).trans e1)
 have E2 := hid (show ∀ Wz,Below W.heap.size W Wz → Wz.cell? ⟨rb,ro + n2,none⟩ = some (.int .i64 z) from fun Wz h => (h.cell (p := ⟨rb,ro + n2,none⟩) hrl).trans e2)
 have HTA := hid hta; clear e1 e2 hbl hrl hta; refine wp_region_held_drew (S := fun Wz => RoH B Wz g sb nb A x s ∧ Below W.heap.size W Wz) (by kernel_rfl) ⟨HW0.out,(Below.refl _ _).drew⟩ (fun hHeld => ?_)
 refine stpT 0 hHeld ?_ (y := fun Wz hWz => by obtain ⟨hW1,hW2,hW3,hW4⟩ := RoH.cells hWz.1; rw [HTA.out] at hW1; have hW5 := E1.out Wz hWz.2; have hW6 := E2.out Wz hWz.2; go_simp; (try with_reducible rfl))
 try go_frame
 refine stpT 1 hHeld ?_ (y := fun Wz hWz => by obtain ⟨hW1,hW2,hW3,hW4⟩ := RoH.cells hWz.1; rw [HTA.out] at hW1; have hW5 := E1.out Wz hWz.2; have hW6 := E2.out Wz hWz.2; go_simp; (try with_reducible rfl))
 try go_frame
 refine stpT 2 hHeld ?_ (y := fun Wz hWz => by obtain ⟨hW1,hW2,hW3,hW4⟩ := RoH.cells hWz.1; rw [HTA.out] at hW1; have hW5 := E1.out Wz hWz.2; have hW6 := E2.out Wz hWz.2; go_simp; (try with_reducible rfl))
 try go_frame
 refine stpT 3 hHeld ?_ (y := fun Wz hWz => by obtain ⟨hW1,hW2,hW3,hW4⟩ := RoH.cells hWz.1; rw [HTA.out] at hW1; have hW5 := E1.out Wz hWz.2; have hW6 := E2.out Wz hWz.2; go_simp; (try with_reducible rfl))
 try go_frame
 refine stpT 7 hHeld ?_ (y := fun Wz hWz => by obtain ⟨hW1,hW2,hW3,hW4⟩ := RoH.cells hWz.1; rw [HTA.out] at hW1; have hW5 := E1.out Wz hWz.2; have hW6 := E2.out Wz hWz.2; go_simp; (try with_reducible rfl))
 try go_frame
 refine stpT 8 hHeld ?_ (y := fun Wz hWz => by obtain ⟨hW1,hW2,hW3,hW4⟩ := RoH.cells hWz.1; rw [HTA.out] at hW1; have hW5 := E1.out Wz hWz.2; have hW6 := E2.out Wz hWz.2; go_simp; (try with_reducible rfl))
 try go_frame
 refine stpR 4 (fun K hK => ?_); go_simp; refine (HC1.out _ hHeld.1).mono ?_; rintro e w3 ⟨rfl,hbw3⟩; have hdw3 : RoH B w3 g sb nb A x s ∧ Below W.heap.size W w3 := ⟨hHeld.1.later hbw3,hHeld.2.trans (hbw3.mono hHeld.2.size)⟩; clear hbw3; refine hK.out _ _ ?_ (fun hHeld => ?_)
 ·exact hdw3
 clear hK K; try go_frame
 refine stpT 5 hHeld ?_ (y := fun Wz hWz => by obtain ⟨hW1,hW2,hW3,hW4⟩ := RoH.cells hWz.1; rw [HTA.out] at hW1; have hW5 := E1.out Wz hWz.2; have hW6 := E2.out Wz hWz.2; go_simp; (try with_reducible rfl))
 try go_frame
 refine stpT 6 hHeld ?_ (y := fun Wz hWz => by obtain ⟨hW1,hW2,hW3,hW4⟩ := RoH.cells hWz.1; rw [HTA.out] at hW1; have hW5 := E1.out Wz hWz.2; have hW6 := E2.out Wz hWz.2; go_simp; (try with_reducible rfl))
 try go_frame
 refine stpR 9 (fun K hK => ?_); go_simp; refine (HC2.out _ hHeld.1).mono ?_; rintro e w4 ⟨rfl,hbw4⟩; have hdw4 : RoH B w4 g sb nb A x s ∧ Below W.heap.size W w4 := ⟨hHeld.1.later hbw4,hHeld.2.trans (hbw4.mono hHeld.2.size)⟩; clear hbw4; refine hK.out _ _ ?_ (fun hHeld => ?_)
 ·exact hdw4
 clear hK K; try go_frame
 refine stpT 10 hHeld ?_ (y := fun Wz hWz => by obtain ⟨hW1,hW2,hW3,hW4⟩ := RoH.cells hWz.1; rw [HTA.out] at hW1; have hW5 := E1.out Wz hWz.2; have hW6 := E2.out Wz hWz.2; go_simp; (try with_reducible rfl))
 try go_frame
 refine stpT 11 hHeld ?_ (y := fun Wz hWz => by obtain ⟨hW1,hW2,hW3,hW4⟩ := RoH.cells hWz.1; rw [HTA.out] at hW1; have hW5 := E1.out Wz hWz.2; have hW6 := E2.out Wz hWz.2; go_simp; (try with_reducible rfl))
 try go_frame
 refine stpT 12 hHeld ?_ (y := fun Wz hWz => by obtain ⟨hW1,hW2,hW3,hW4⟩ := RoH.cells hWz.1; rw [HTA.out] at hW1; have hW5 := E1.out Wz hWz.2; have hW6 := E2.out Wz hWz.2; go_simp; (try with_reducible rfl))
 try go_frame
 refine wpAnyH_done (by kernel_rfl) ?_ _
 clear hHeld HC1 HC2 HW0 E1 E2 HTA hdw3; obtain ⟨hR,hB⟩ := hdw4; by_cases h0 : 0 < p
 ·obtain ⟨b2,o2,y,hca,y1,hy,y2,y3⟩ := HST.out w4 hR h0
  subst hy; obtain ⟨_,c6,_,_⟩ := hR.cells; rw [hca] at c6; obtain ⟨p0,hp0⟩ : ∃ p0,p = p0 + 1 := ⟨p - 1,by omega⟩
  subst hp0; rw [show p0 + 1 - 1 = p0 from rfl] at y1
  have hp1 : (((p0 + 1 : Nat) : Int)) = (p0 : Int) + 1 := by omega
  have hpb : decide (0 < (p0 : Int) + 1) = true := decide_eq_true (by omega)
  have p1 : (0 : Int) ≤ (p0 : Int) := by omega
  have p2 : (p0 : Int) < (x.cus.length : Int) := by omega
  have HB4 := hid hB; have HV : Hid (z + st = tk) := hid (by rw [HTK.out,Int.add_comm])
  clear hR hB h0 hca HST HTK HSZ; rw [hp1]; go_wp2_with fail
  go_ret
  exact ⟨by rw [← HV.out]; rfl,HB4.out⟩
 ·obtain rfl : p = 0 := by omega
  have hs0 := HSZ.out rfl; subst hs0; have hz : tk = z := (by rw [HTK.out]; simp)
  subst hz; clear HTK HST; go_wp2_with fail
  go_ret
  exact ⟨rfl,hB⟩
end Go.Proofs.YtfkommjlmolniaaGreatDoor
end
section

namespace Go.Proofs.YtfkommjlmolniaaGreatDoor
open Go.RowKit
variable {w wr w2 : World} {a : Option Addr} {len cap g : Nat} {n : Int}
theorem Box.kept {S : Nat → Prop} (h : Box w wr g n a len cap) (hm : Mod S wr w2) (hS : ∀ k,S k → w.heap.size ≤ k) (hg : ¬ S g) : Box w w2 g n a len cap :=
 ⟨((Mod.of_below S h.below).trans hm).below (Nat.le_refl _) hS,h.ge,(hm.block g h.lt hg).trans h.blk⟩
end Go.Proofs.YtfkommjlmolniaaGreatDoor
end
section

namespace Go.Proofs.YtfkommjlmolniaaGreatDoor
open Go.RowKit
def turned (l : List Ar) : List Ar := l.map fun x => (x.2.1,x.1,x.2.2)
def turnF (l : List Ar) (k j : Nat) : Value :=
 let x := if j / 3 < k then l.getD (j / 3) (0,0,0) else (0,0,0)
 if j % 3 = 0 then .int .i64 x.2.1 else if j % 3 = 1 then .int .i64 x.1 else .int .i64 x.2.2
variable {w wr w2 w4 : World} {a : Option Addr} {len cap B B2 g T rs k : Nat} {l : List Ar} {n : Int} {x : Ar}
theorem Zjc {j : Nat} (h : j < k * 3 ∨ k * 3 + 3 ≤ j) : turnF l (k + 1) j = turnF l k j := by
 have : (j / 3 < k + 1) = (j / 3 < k) := by apply propext; omega
 simp only [turnF,this]
theorem Zb8 (hx : l[k]? = some x) : turnF l (k + 1) (k * 3) = .int .i64 x.2.1 ∧ turnF l (k + 1) (k * 3 + 1) = .int .i64 x.1 ∧ turnF l (k + 1) (k * 3 + 2) = .int .i64 x.2.2 := by
 have e0 : k * 3 / 3 = k := by omega
 have e1 : (k * 3 + 1) / 3 = k := by omega
 have e2 : (k * 3 + 2) / 3 = k := by omega
 have m0 : k * 3 % 3 = 0 := by omega
 have m1 : (k * 3 + 1) % 3 = 1 := by omega
 have m2 : (k * 3 + 2) % 3 = 2 := by omega
 simp [turnF,e0,e1,e2,m0,m1,m2,List.getD,hx]
structure TurnW (w wr : World) (g rs T : Nat) (n : Int) (a : Option Addr) (len cap : Nat) (l : List Ar) (k : Nat) : Prop where
 box : Box w wr g n a len cap
 res : wr.heap[rs]? = some (.cells #[.int .i64 0,.slice none 0 0] 95 (0,0))
 row : wr.rowIs T 121 (len * 3) (turnF l k)
 lt1 : g < rs
 lt2 : rs < T
theorem TurnW.later (h : TurnW w wr g rs T n a len cap l k) (hb : Below wr.heap.size wr w2) : TurnW w w2 g rs T n a len cap l k :=
 ⟨h.box.later hb,(hb.block rs (by have := h.lt2; have := h.row.lt; omega)).trans h.res,Z0a h.row hb,h.lt1,h.lt2⟩
theorem TurnW.set_ (h : TurnW w wr g rs T n a len cap l k) (hx : l[k]? = some x) (_hk : k < len) :
  TurnW w (((wr.setCell ⟨T,k * 3,none⟩ (.int .i64 x.2.1)).setCell ⟨T,k * 3 + 1,none⟩ (.int .i64 x.1)).setCell ⟨T,k * 3 + 2,none⟩ (.int .i64 x.2.2)) g rs T n a len cap l (k + 1) := by
 have hge := h.box.ge; have h1 := h.lt1; have h2 := h.lt2; have hm : Mod (fun b => b = T) wr (((wr.setCell ⟨T,k * 3,none⟩ (.int .i64 x.2.1)).setCell ⟨T,k * 3 + 1,none⟩ (.int .i64 x.1)).setCell ⟨T,k * 3 + 2,none⟩ (.int .i64 x.2.2)) :=
  (((Mod.refl (fun b => b = T) wr).setCell (p := ⟨T,k * 3,none⟩) (.inr rfl) _).setCell (p := ⟨T,k * 3 + 1,none⟩) (.inr rfl) _).setCell (p := ⟨T,k * 3 + 2,none⟩) (.inr rfl) _
 refine ⟨h.box.kept hm (fun k hk => by omega) (by omega),(hm.block rs (by have := h.row.lt; omega) (by omega)).trans h.res,?_,h1,h2⟩
 refine (((h.row.set (k * 3) _).set (k * 3 + 1) _).set (k * 3 + 2) _).congr (fun j _ => ?_); obtain ⟨t0,t1,t2⟩ := Zb8 hx; by_cases j2 : j = k * 3 + 2
 ·subst j2; simp [t2]
 ·by_cases j1 : j = k * 3 + 1
  ·subst j1; simp [t1]
  ·by_cases j0 : j = k * 3
   ·subst j0; simp [t0]
   ·simp only [j2,j1,j0,if_false]
    rw [Zjc (by omega)]
theorem TurnW.arcs (h : TurnW w wr g rs T n a len cap l k) (hl : l.length = len) (hk : len ≤ k) : IsArcs wr.heap.size wr (some ⟨T,0,none⟩) len (turned l) := by
 refine ⟨by simp [turned,hl],.inr ⟨T,0,rfl,h.row.lt,fun j x hj => ?_⟩⟩
 have hjl : j < len := by have := (List.getElem?_eq_some_iff.1 hj).1; simpa [turned,hl] using this
 have hlj : l[j]? = some (l[j]'(by omega)) := List.getElem?_eq_getElem (by omega)
 have hx : x = ((l[j]'(by omega)).2.1,(l[j]'(by omega)).1,(l[j]'(by omega)).2.2) := by
  rw [turned,List.getElem?_map,hlj] at hj; simpa using hj.symm
 have e : ∀ m,m < 3 → turnF l k (j * 3 + m) = turnF l (j + 1) (j * 3 + m) := fun m hm => by
  have q1 : (j * 3 + m) / 3 = j := by omega
  simp only [turnF,q1,show j < k by omega,show j < j + 1 by omega]
 obtain ⟨t0,t1,t2⟩ := Zb8 hlj; have c0 := h.row.cell (i := j * 3) (by omega)
 have c1 := h.row.cell (i := j * 3 + 1) (by omega)
 have c2 := h.row.cell (i := j * 3 + 2) (by omega)
 have e0 := e 0 (by omega)
 rw [Nat.add_zero] at e0; rw [e0,t0] at c0; rw [e 1 (by omega),t1] at c1
 rw [e 2 (by omega),t2] at c2
 subst hx; simp only [Nat.zero_add]
 exact ⟨c0,c1,c2⟩
end Go.Proofs.YtfkommjlmolniaaGreatDoor
end
section

namespace Go.Proofs.YtfkommjlmolniaaGreatDoor
set_option maxHeartbeats 16000000
set_option maxRecDepth 100000
open Go.Lib (hid)
open Go.RowKit
variable {w wr : World} {a : Option Addr} {len cap g T rs : Nat} {l : List Ar} {n : Int}
theorem Znr : (Tryz.prog.info? 121).map (fun i => (i.zero,i.size,i.bytes)) = some (some (.agg #[.int .i64 0,.int .i64 0,.int .i64 0]),3,24) := by kernel_rfl
theorem Zjd : (Tryz.prog.info? 95).map (fun i => i.size) = some 2 := by kernel_rfl
theorem Zje (len : Nat) (h : len ≤ 1000000) (w : World) :
  (Instr.makeSlice 93 (.int .i64 (len : Int)) (.int .i64 (len : Int))).run Tryz.prog w = .ok (.slice (some ⟨w.heap.size,0,none⟩) len len) (w.alloc (.cells (madeCells #[.int .i64 0,.int .i64 0,.int .i64 0] (len * 3)) 121)) := by
 obtain ⟨i,hi,hz,hs,hb⟩ := info_parts Znr; have hr := run_make (P := Tryz.prog) w 93 121 i _ Tryz.underlying93 hi hz .i64 .i64 (len : Int) (len : Int) (by omega) (Int.le_refl _) (by rw [hb]; omega) (by omega)
 simpa [hs,Value.cells] using hr
theorem Zlv (w : World) (len : Nat) (l : List Ar) : (w.alloc (.cells (madeCells #[.int .i64 0,.int .i64 0,.int .i64 0] (len * 3)) 121)).rowIs w.heap.size 121 (len * 3) (turnF l 0) := by
 have h := World.rowIs_alloc w (madeCells #[.int .i64 0,.int .i64 0,.int .i64 0] (len * 3)) 121 (turnF l 0) (fun j hj => by
  rw [size_madeCells] at hj; have e : turnF l 0 j = .int .i64 0 := by simp [turnF]
  rw [e]; have hm : j % 3 = 0 ∨ j % 3 = 1 ∨ j % 3 = 2 := by omega
  rcases hm with hm | hm | hm <;> simp [madeCells,hj,hm])
 rwa [size_madeCells] at h
theorem TurnW.done {k : Nat} (h : TurnW w wr g rs T n a len cap l k) (hl : l.length = len) (hk : len ≤ k) :
  (((wr.setCell ⟨rs,0,none⟩ (.int .i64 n)).setCell ⟨rs,1,none⟩ (.slice (some ⟨T,0,none⟩) len len)).heap[rs]? = some (.cells #[.int .i64 n,.slice (some ⟨T,0,none⟩) len len] 95 (0,0))) ∧
  IsArcs ((wr.setCell ⟨rs,0,none⟩ (.int .i64 n)).setCell ⟨rs,1,none⟩ (.slice (some ⟨T,0,none⟩) len len)).heap.size ((wr.setCell ⟨rs,0,none⟩ (.int .i64 n)).setCell ⟨rs,1,none⟩ (.slice (some ⟨T,0,none⟩) len len)) (some ⟨T,0,none⟩) len (turned l) ∧
  w.heap.size ≤ T ∧ Below w.heap.size w ((wr.setCell ⟨rs,0,none⟩ (.int .i64 n)).setCell ⟨rs,1,none⟩ (.slice (some ⟨T,0,none⟩) len len)) := by
 have h1 := h.lt1; have h2 := h.lt2; have h3 := h.box.ge; have hm : Mod (fun b => b = rs) wr ((wr.setCell ⟨rs,0,none⟩ (.int .i64 n)).setCell ⟨rs,1,none⟩ (.slice (some ⟨T,0,none⟩) len len)) :=
  ((Mod.refl (fun b => b = rs) wr).setCell (p := ⟨rs,0,none⟩) (.inr rfl) _).setCell (p := ⟨rs,1,none⟩) (.inr rfl) _
 refine ⟨?_,?_,by omega,((Mod.of_below (fun b => b = rs) h.box.below).trans hm).below (Nat.le_refl _) (fun k hk => by omega)⟩
 ·exact heap_setCell_same _ _ _ _ _ _ (heap_setCell_same _ _ _ _ _ _ h.res)
 ·have ha := h.arcs hl hk
  refine ⟨ha.1,?_⟩; rcases ha.2 with h0 | ⟨b,off,e,hb,hr⟩
  ·exact .inl h0
  ·simp only [Option.some.injEq,Addr.mk.injEq,and_true] at e
   obtain ⟨e1,e2⟩ := e; subst e1 e2; exact .inr ⟨T,0,rfl,Nat.lt_of_lt_of_le hb hm.size,hr.of_block (hm.block T hb (by omega))⟩
theorem Zg9 (n : Int) (hlen : len ≤ 1000000) (a : Option Addr) (cap : Nat) (w : World) (hl : IsArcs w.heap.size w a len l) :
  Calls Tryz.prog 96 #[.agg #[.int .i64 n,.slice a len cap]] w fun e w' => ∃ T,e = .returned (.agg #[.int .i64 n,.slice (some ⟨T,0,none⟩) len len]) ∧ IsArcs w'.heap.size w' (some ⟨T,0,none⟩) len (turned l) ∧ w.heap.size ≤ T ∧ Below w.heap.size w w' := by
 have hmk := Zje len hlen; have HLn : Hid (l.length = len) := hid hl.1; have HL := hid hl; clear hl; have HG0 : Hid (TurnW w (((w.alloc (.cells #[.int .i64 n,.slice a len cap] 95)).alloc (.cells #[.int .i64 0,.slice none 0 0] 95)).alloc (.cells (madeCells #[.int .i64 0,.int .i64 0,.int .i64 0] (len * 3)) 121)) w.heap.size (w.heap.size + 1) (w.heap.size + 2) n a len cap l 0) := by
  have h2 := Zlv ((w.alloc (.cells #[.int .i64 n,.slice a len cap] 95)).alloc (.cells #[.int .i64 0,.slice none 0 0] 95)) len l; have e : ((w.alloc (.cells #[.int .i64 n,.slice a len cap] 95)).alloc (.cells #[.int .i64 0,.slice none 0 0] 95)).heap.size = w.heap.size + 2 := by simp
  rw [e] at h2; refine hid ⟨((Box.make (Below.refl _ w) n a len cap).alloc _).alloc _,?_,h2,by omega,by omega⟩
  exact (Below.heap_alloc _ _ _ (by simp)).trans (heap_alloc2_new _ _ _)
 go_enter Tryz.func96,Tryz.ntmps96
 go_wp2_with fail
 clear hmk; obtain ⟨T,hT⟩ : ∃ T,T = w.heap.size + 2 := ⟨_,rfl⟩; obtain ⟨rs,hrs⟩ : ∃ rs,rs = w.heap.size + 1 := ⟨_,rfl⟩; rw [← hT,← hrs] at HG0 ⊢; clear hT hrs; go_loopw [13] (fun j wr => ∃ (k : Nat),j = .int .i64 k ∧ k ≤ len ∧ Hid (TurnW w wr w.heap.size rs T n a len cap l k)) (fun j _ => len - (intOf j).toNat)
 case atStart => exact ⟨0,rfl,Nat.zero_le _,HG0⟩
 case round =>
  obtain ⟨k,rfl,hk,HX⟩ := hrel; clear HG0; by_cases hlt : k < len
  ·obtain ⟨b,off,x,rfl,hb,hx,e0,e1,e2⟩ := (HX.out.box.arcs HL.out).at_ hlt
   have HXX := hid hx; clear hx hb; have HX1 := hid (HX.out.later ((Below.refl wr.heap.size wr).alloc (Nat.le_refl _) (.cells #[.int .i64 x.1,.int .i64 x.2.1,.int .i64 x.2.2] 121))); have HN := hid (HX1.out.set_ HXX.out hlt); have r0 := HX1.out.row.cell (i := k * 3) (by omega)
   have r1 := HX1.out.row.cell (i := k * 3 + 1) (by omega)
   have r2 := HX1.out.row.cell (i := k * 3 + 2) (by omega)
   have d0 := HX1.out.row.frozen (k * 3); have d1 := HX1.out.row.frozen (k * 3 + 1); have d2 := HX1.out.row.frozen (k * 3 + 2); obtain ⟨f,t,c⟩ := x; simp only at e0 e1 e2 HN HX1 r0 r1 r2 d0 d1 d2
   go_wp2_with fail
   go_roundw
   case rel => exact ⟨k + 1,by go_num,by omega,HN⟩
   case measure => simp [intOf]; omega
  ·have r0 := cell_of_row _ _ 0 _ _ _ HX.out.res
   have r1 := cell_of_row _ _ 1 _ _ _ HX.out.res; have d0 := frozen_of_row _ _ 0 _ _ HX.out.res; have d1 := frozen_of_row _ _ 1 _ _ HX.out.res; have x0 := HX.out.box.c0; go_wp2_with fail
   have hd := HX.out.done HLn.out (by omega)
   obtain ⟨g1,g2,g3,g4⟩ := hd; refine bodyPost_ret (v := .agg #[.int .i64 n,.slice (some ⟨T,0,none⟩) len len]) (results_cell_row rfl _ _ rs 95 _ (0,0) _ rfl g1 Tryz.underlying95 rfl Zjd) rfl ⟨T,rfl,g2,g3,g4⟩
end Go.Proofs.YtfkommjlmolniaaGreatDoor
end
