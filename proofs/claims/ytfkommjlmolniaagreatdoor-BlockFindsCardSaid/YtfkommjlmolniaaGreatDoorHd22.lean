/- Joined: BView, SetWo, SetLen, All, SetAnd, SetOf, ILoad, BFrom. -/
import Derived.Test.YtfkommjlmolniaaGreatDoorHd15
import Derived.Test.YtfkommjlmolniaaGreatDoorHd2
import Derived.Deep.LoopGhost
import Derived.LoopTactic
import Derived.Test.YtfkommjlmolniaaGreatDoorRows
import Derived.WalkKit
import Derived.Laws.BitsAllLaws
import Derived.Laws.Shifts
import Derived.Lib.Hide
import Derived.Test.YtfkommjlmolniaaGreatDoorHd17
import Derived.Test.YtfkommjlmolniaaGreatDoorHd3
import Derived.Below
import Derived.ProofKit
import Derived.OpenShut
import Derived.OwnWalk
import Derived.Laws.AppendOwn
import Derived.Laws.OwnMore
import Derived.Laws.MakeOwn
import Derived.Deep.RegionHeld3
import Derived.Maps.RangeWalk
import Derived.Test.YtfkommjlmolniaaGreatDoorHd6
set_option linter.unusedVariables false
section

namespace Go.Proofs.YtfkommjlmolniaaGreatDoor
open Go.Lib (hid)
open Go.RowKit
structure VA where
 (A : InA) (ma : Option Addr) (mc : Nat) (na : Option Addr) (nc : Nat)
structure Vw where
 (x : Ins) (zs : List Nat) (cs : List Int)
abbrev viewC (V : VA) (y : Vw) : Array Value := #[.int .i64 y.x.en,.int .i64 y.x.tm,.int .i64 y.x.tr,.int .i64 y.x.bm,.int .i64 y.x.br,.slice V.A.sa y.x.sats.length V.A.sc,.slice V.A.ca y.x.cus.length V.A.cc,.slice V.A.ka y.x.cost.length V.A.kc,.slice V.A.ta y.x.time.length V.A.tc,.slice V.ma y.zs.length V.mc,.slice V.na y.cs.length V.nc]
structure IsView (B : Nat) (w : World) (V : VA) (y : Vw) : Prop where
 ins : IsIns B w V.A y.x
 mays : IsSets B w V.ma y.zs.length y.zs
 cnts : IsNums B w V.na y.cs.length y.cs
variable {w wr w2 : World} {V : VA} {y : Vw} {B B2 g c s z : Nat}
theorem IsView.later (h : IsView B w V y) (hb : Below B w w2) : IsView B w2 V y := ⟨h.ins.later hb,h.mays.later hb,h.cnts.later hb⟩
theorem IsView.mono (h : IsView B w V y) (hb : B ≤ B2) : IsView B2 w V y := ⟨h.ins.mono hb,h.mays.mono hb,h.cnts.mono hb⟩
structure VBox (w wr : World) (g : Nat) (V : VA) (y : Vw) : Prop where
 below : Below w.heap.size w wr
 ge : w.heap.size ≤ g
 blk : wr.heap[g]? = some (.cells (viewC V y) 65 (0,0))
theorem VBox.lt (h : VBox w wr g V y) : g < wr.heap.size := (Array.getElem?_eq_some_iff.1 h.blk).1
theorem VBox.make (h : Below w.heap.size w wr) (V : VA) (y : Vw) : VBox w (wr.alloc (.cells (viewC V y) 65)) wr.heap.size V y := ⟨h.alloc h.size _,h.size,heap_alloc_new _ _⟩
theorem VBox.later (h : VBox w wr g V y) (hb : Below wr.heap.size wr w2) : VBox w w2 g V y := ⟨h.below.trans (hb.mono h.below.size),h.ge,(hb.block g h.lt).trans h.blk⟩
theorem Z0c (h : wr.heap[g]? = some (.cells (viewC V y) 65 (0,0))) : wr.cell? ⟨g,0,none⟩ = some (.int .i64 y.x.en) ∧ wr.cell? ⟨g,1,none⟩ = some (.int .i64 y.x.tm) ∧ wr.cell? ⟨g,2,none⟩ = some (.int .i64 y.x.tr) ∧ wr.cell? ⟨g,3,none⟩ = some (.int .i64 y.x.bm) ∧ wr.cell? ⟨g,4,none⟩ = some (.int .i64 y.x.br) ∧
  wr.cell? ⟨g,5,none⟩ = some (.slice V.A.sa y.x.sats.length V.A.sc) ∧ wr.cell? ⟨g,6,none⟩ = some (.slice V.A.ca y.x.cus.length V.A.cc) ∧ wr.cell? ⟨g,7,none⟩ = some (.slice V.A.ka y.x.cost.length V.A.kc) ∧ wr.cell? ⟨g,8,none⟩ = some (.slice V.A.ta y.x.time.length V.A.tc) ∧
  wr.cell? ⟨g,9,none⟩ = some (.slice V.ma y.zs.length V.mc) ∧ wr.cell? ⟨g,10,none⟩ = some (.slice V.na y.cs.length V.nc) := by
 simp [World.cell?,h]
theorem Zgw {a : Option Addr} (h : wr.heap[g]? = some (.cells (viewC V y) 65 (0,0))) (e : V.A.sa = a) : wr.cell? ⟨g,5,none⟩ = some (.slice a y.x.sats.length V.A.sc) := by rw [(Z0c h).2.2.2.2.2.1,e]
theorem Z1l {a : Option Addr} (h : wr.heap[g]? = some (.cells (viewC V y) 65 (0,0))) (e : V.A.ca = a) : wr.cell? ⟨g,6,none⟩ = some (.slice a y.x.cus.length V.A.cc) := by rw [(Z0c h).2.2.2.2.2.2.1,e]
theorem Zmp {a : Option Addr} (h : wr.heap[g]? = some (.cells (viewC V y) 65 (0,0))) (e : V.ma = a) : wr.cell? ⟨g,9,none⟩ = some (.slice a y.zs.length V.mc) := by rw [(Z0c h).2.2.2.2.2.2.2.2.2.1,e]
theorem Zmq {a : Option Addr} (h : wr.heap[g]? = some (.cells (viewC V y) 65 (0,0))) (e : V.na = a) : wr.cell? ⟨g,10,none⟩ = some (.slice a y.cs.length V.nc) := by rw [(Z0c h).2.2.2.2.2.2.2.2.2.2,e]
theorem VBox.view (h : VBox w wr g V y) (hl : IsView w.heap.size w V y) : IsView wr.heap.size wr V y := (hl.later h.below).mono h.below.size
theorem IsSets.at_ {a : Option Addr} {len : Nat} {zs : List Nat} (h : IsSets B w a len zs) (hs : s < len) : ∃ b off z,a = some ⟨b,off,none⟩ ∧ zs[s]? = some z ∧ z < 18446744073709551616 ∧ w.cell? ⟨b,off + s,none⟩ = some (.int .u64 (z : Int)) := by
 obtain ⟨h1,h2,h3⟩ := h; subst h1; rcases h3 with h3 | ⟨b,off,e,hb,hr⟩
 ·omega
 ·exact ⟨b,off,_,e,List.getElem?_eq_getElem hs,h2 _ (List.getElem_mem hs),hr s _ (List.getElem?_eq_getElem hs)⟩
structure Vw.Ok (y : Vw) : Prop where
 may : May y.x
 nz : y.zs.length = y.x.sats.length
 nn : y.cs.length = y.x.sats.length
 bits : ∀ z,z ∈ y.zs → ∀ c,y.x.cus.length ≤ c → z.testBit c = false
 cnts : ∀ n,n ∈ y.cs → 0 ≤ n ∧ n ≤ 64
def needI (x : Ins) (k : Int) (c : Nat) : Int := if k = 5 then ldI x c else 1
def Z0e (y : Vw) (k : Int) (s : Nat) : Int := if k = 5 then roomI y.x s else y.cs.getD s 0
def Vw.p (y : Vw) (s c : Nat) : Bool := (y.zs.getD s 0).testBit c
theorem Z3k (h : May y.x) (k : Int) (hc : c < y.x.cus.length) : 0 ≤ needI y.x k c ∧ needI y.x k c ≤ 1000000000 := by
 have := h.loads c hc; unfold needI; split <;> omega
theorem Z47 (h : y.Ok) (k : Int) (hs : s < y.x.sats.length) : 0 ≤ Z0e y k s ∧ Z0e y k s ≤ 1000000000 := by
 have h1 := h.may.rooms s hs; have h2 : s < y.cs.length := by rw [h.nn]; exact hs
 have h3 := h.cnts _ (List.getElem_mem h2); unfold Z0e; split
 ·omega
 ·rw [List.getD,List.getElem?_eq_getElem h2,Option.getD_some]
  omega
theorem Zgx {c : Nat} {x : Ins} {l : Pi} (h : x.cus[c]? = some l) : ldI x c = l.1 := by unfold ldI; rw [List.getD,h]; rfl
theorem Zcw {s : Nat} {x : Ins} {l : Int × Int} (h : x.sats[s]? = some l) : roomI x s = l.1 := by unfold roomI; rw [List.getD,h]; rfl
theorem Z0g (w : World) (o : Obj) : Below w.heap.size w (w.alloc o) := (Below.refl w.heap.size w).alloc (Nat.le_refl _) o
theorem Z38 (V : VA) (y : Vw) (k : Int) (c : Nat) (w : World) (hi : IsView w.heap.size w V y) (hc : c < y.x.cus.length) :
  Calls Tryz.prog 63 #[.agg (viewC V y),.int .i64 k,.int .i64 (c : Int)] w fun e w' => e = .returned (.int .i64 (needI y.x k c)) ∧ Below w.heap.size w w' := by
 have HX := hid (VBox.make (Below.refl _ w) V y); have HI := hid hi; obtain ⟨b,off,l,hca,hb,hl,q0,q1,q2,q3⟩ := (HX.out.view hi).ins.cus.at_ hc; obtain ⟨c0,c1,c2,c3,c4,c5,c6,c7,c8,c9,c10⟩ := Z0c HX.out.blk; clear c6; have c6 := Z1l HX.out.blk hca; have HL := hid hl; have HCA := hid hca; clear hi hl hca; unfold viewC at *; by_cases hk : k = 5
 ·have hv := hid (show needI y.x k c = l.1 by unfold needI; rw [if_pos hk,Zgx HL.out])
  have hkb : (k == 5) = true := by simpa using hk
  rw [hv.out]; clear hk; go_enter Tryz.func63,Tryz.ntmps63
  go_wp2_with fail
  go_ret
  exact ⟨rfl,HX.out.below⟩
 ·have hv := hid (show needI y.x k c = 1 by unfold needI; rw [if_neg hk])
  have hkb : (k == 5) = false := by simpa using hk
  rw [hv.out]; clear hk; go_enter Tryz.func63,Tryz.ntmps63
  go_wp2_with fail
  go_ret
  exact ⟨rfl,HX.out.below⟩
theorem Z3l (V : VA) (y : Vw) (k : Int) (s : Nat) (w : World) (hi : IsView w.heap.size w V y) (hs : s < y.x.sats.length) (hnn : y.cs.length = y.x.sats.length) :
  Calls Tryz.prog 64 #[.agg (viewC V y),.int .i64 k,.int .i64 (s : Int)] w fun e w' => e = .returned (.int .i64 (Z0e y k s)) ∧ Below w.heap.size w w' := by
 have HX := hid (VBox.make (Below.refl _ w) V y); have HI := hid hi; obtain ⟨c0,c1,c2,c3,c4,c5,c6,c7,c8,c9,c10⟩ := Z0c HX.out.blk; have HNN := hid hnn; clear hi hnn; unfold viewC at *; by_cases hk : k = 5
 ·obtain ⟨b,off,l,hca,hb,hl,q0,q1⟩ := (HX.out.view HI.out).ins.sats.at_ hs
  clear c5; have c5 := Zgw HX.out.blk hca; have HL := hid hl; have HCA := hid hca; clear hl hca; have hv := hid (show Z0e y k s = l.1 by unfold Z0e; rw [if_pos hk,Zcw HL.out])
  have hkb : (k == 5) = true := by simpa using hk
  rw [hv.out]; clear hk; go_enter Tryz.func64,Tryz.ntmps64
  go_wp2_with fail
  go_ret
  exact ⟨rfl,HX.out.below⟩
 ·obtain ⟨b,off,l,hca,hl,q0⟩ := (HX.out.view HI.out).cnts.at_ (k := s) (by rw [HNN.out]; exact hs)
  clear c10; have c10 := Zmq HX.out.blk hca; have HL := hid hl; have HCA := hid hca; have hsl : s < y.cs.length := by rw [HNN.out]; exact hs
  clear hl hca; have hv := hid (show Z0e y k s = l by unfold Z0e; rw [if_neg hk,List.getD,HL.out]; rfl)
  have hkb : (k == 5) = false := by simpa using hk
  rw [hv.out]; clear hk; go_enter Tryz.func64,Tryz.ntmps64
  go_wp2_with fail
  go_ret
  exact ⟨rfl,HX.out.below⟩
theorem Z2q (V : VA) (y : Vw) (w : World) (h : y.x.sats.length + y.x.cus.length ≤ 1000) :
  Calls Tryz.prog 57 #[.agg (viewC V y)] w fun e w' => e = .returned (.int .i64 ((1 + y.x.sats.length + y.x.cus.length : Nat) : Int)) ∧ Below w.heap.size w w' := by
 have HX := hid (VBox.make (Below.refl _ w) V y); obtain ⟨c0,c1,c2,c3,c4,c5,c6,c7,c8,c9,c10⟩ := Z0c HX.out.blk; unfold viewC at *; go_enter Tryz.func57,Tryz.ntmps57
 go_wp2_with (go_at_call 39; refine (Zaf V.A y.x _ h).mono ?_; rintro e w1 ⟨rfl,hb1⟩)
 go_ret
 exact ⟨rfl,(HX.out.later hb1).below⟩
end Go.Proofs.YtfkommjlmolniaaGreatDoor
end
section

namespace Go.Proofs.YtfkommjlmolniaaGreatDoor
open Go.Lib (hid)
open Go.RowKit
theorem Zci (s : Nat) (hs : s < 18446744073709551616) (n : Int) (w : World) : Calls Tryz.prog 69 #[.int .u64 (s : Nat),.int .i64 n] w fun e w' => e = .returned (.int .u64 (Z1j s n : Nat)) ∧ w = w' := by
 have hv := hid (u64_andNot_nat s (onlyN n) hs (Z2u n)); have hl := Z2u n; go_enter Tryz.func69,Tryz.ntmps69
 go_wp2_with (go_at_call 83; refine (Ze6 _ _).mono ?_; rintro e w' ⟨rfl,rfl⟩)
 go_ret
 exact ⟨Z8s hv.out,rfl⟩
end Go.Proofs.YtfkommjlmolniaaGreatDoor
end
section

namespace Go.Proofs.YtfkommjlmolniaaGreatDoor
open Go.Lib (hid)
open Go.RowKit
theorem Zja (s : Nat) (hs : s < 18446744073709551616) (w : World) : Calls Tryz.prog 25 #[.int .u64 (s : Nat)] w fun e w' => e = .returned (.int .i64 ((allN s).length : Nat)) ∧ w = w' := by
 have HS := hid hs; clear hs; go_enter Tryz.func25,Tryz.ntmps25
 go_wp2_with (go_at_call 37; refine (Zl9 _ HS.out _).mono ?_; rintro e w' ⟨rfl,rfl⟩)
 go_ret
 exact ⟨rfl,rfl⟩
end Go.Proofs.YtfkommjlmolniaaGreatDoor
end
section

namespace Go.Proofs.YtfkommjlmolniaaGreatDoor
open Go.Lib (hid)
open Go.RowKit
theorem Zec (s : Nat) (hs : s < 18446744073709551616) (h0 : s ≠ 0) (w : World) (ht : TabD w) : Calls Tryz.prog 68 #[.int .u64 (s : Nat)] w fun e w' => e = .returned (.int .i64 (Lib.ctz 64 s : Nat)) ∧ w = w' := by
 have HS := hid hs; clear hs; have HT := hid ht; clear ht; have H0 := hid h0; have hz : ((s : Int) == 0) = false := by simp; exact h0
 clear h0; go_enter Tryz.func68,Tryz.ntmps68
 go_wp2_with (go_at_call 97; refine (Znw _ HS.out H0.out _ HT.out).mono ?_; rintro e w' ⟨rfl,rfl⟩)
 go_ret
 exact ⟨rfl,rfl⟩
theorem Zmh : (Tryz.prog.info? 3).map (fun i => (i.zero,i.size,i.bytes)) = some (some (.int .i64 0),1,8) := by kernel_rfl
def natsV (l : List Nat) : List Value := l.map fun n : Nat => Value.int .i64 (n : Int)
theorem Zed (l : List Nat) (n : Nat) : natsV l ++ [.int .i64 (n : Int)] = natsV (l ++ [n]) := by simp [natsV]
structure OwnL (w wr : World) (l : List Nat) (v : Value) : Prop where
 own : wr.ownsRow w.heap.size 3 1 v l.length (natsV l)
 below : Below w.heap.size w wr
def Zmi (s : Nat) (w : World) (e : Ending) (w' : World) : Prop := ∃ v,e = .returned v ∧ OwnL w w' (allN s) v
theorem Zjl {w wr w1 : World} {l : List Nat} {n : Nat} {v v' : Value} {o : Obj} (h : OwnL w wr l v) (h1 : w1.ownsRow w.heap.size 3 1 v' (l.length + 1) (natsV l ++ [.int .i64 (n : Int)])) (h2 : (wr.alloc o).grownBy w1 v.ownBlock) : OwnL w w1 (l ++ [n]) v' := by
 refine ⟨by rw [Zed] at h1; simpa using h1,?_⟩
 exact (h.below.alloc h.below.size o).grown h2 (by simp; have := h.below.size; omega) fun g hg => (h.own.lt g hg).1
theorem Z80 (s : Nat) (h0 : s ≠ 0) (hs : s < 18446744073709551616) : Z1j s (Lib.ctz 64 s : Nat) < s := by
 obtain ⟨hk,h1,_⟩ := Zin s h0 hs; have h2 := Z5v s (Lib.ctz 64 s : Nat) (Lib.ctz 64 s) hk; have h3 : Z1j s (Lib.ctz 64 s : Nat) ≤ s := Nat.and_le_left; rcases Nat.lt_or_ge (Z1j s (Lib.ctz 64 s : Nat)) s with h | h
 ·exact h
 ·exfalso
  have e : Z1j s (Lib.ctz 64 s : Nat) = s := by omega
  rw [e,h1] at h2; simp at h2
  omega
set_option maxHeartbeats 1000000 in
theorem Zgd (s : Nat) (hs : s < 18446744073709551616) (w : World) (ht : TabD w) : Calls Tryz.prog 51 #[.int .u64 (s : Nat)] w (Zmi s w) := by
 obtain ⟨i0,hi,hz0,hz1,hz2⟩ := info_parts Zmh; have HI := hid hi; clear hi; have HZ0 := hid hz0; clear hz0; have HZ1 := hid hz1; clear hz1; have HZ2 := hid hz2; clear hz2; have HS := hid hs; clear hs; have HT := hid ht; clear ht; have hlen := Z2k s; go_enter Tryz.func51,Tryz.ntmps51
 go_wp2_with fail
 refine (Zja s HS.out _).mono ?_; rintro e w' ⟨rfl,rfl⟩; go_wp2_with (at_make; refine wpList_make_own _ rfl _ _ 37 rfl w.heap.size 3 i0 (.int .i64 0) 1 Tryz.underlying37 HI.out HZ0.out HZ1.out .i64 .i64 _ ((allN s).length) rfl rfl rfl (by rw [HZ2.out]; omega) (by unfold maxLen; omega) (Nat.le_refl _) ?_; intro w0 hown0 hgrow0)
 have HO := hid (OwnL.mk (w := w) (wr := w0) (l := []) hown0 ((Below.refl _ _).grown hgrow0 (Nat.le_refl _) (by simp)))
 clear hown0 hgrow0; go_loopw [0,3] (fun sv v wr => ∃ (pre : List Nat) (s' : Nat),sv = .int .u64 (s' : Nat) ∧ s' < 18446744073709551616 ∧ pre ++ allN s' = allN s ∧ OwnL w wr pre v) (fun sv _ _ => (intOf sv).toNat)
 case atStart => exact ⟨[],s,rfl,HS.out,rfl,HO.out⟩
 case round =>
  obtain ⟨pre,s',rfl,hs2,hpre,O⟩ := hrel; have HO2 := hid O; clear O HO; have HP := hid hpre; clear hpre; have HS2 := hid hs2; clear hs2; by_cases h0 : s' = 0
  ·subst h0
   have hend : Hid (pre = allN s) := hid (by have := HP.out; rw [Zim,List.append_nil] at this; exact this)
   go_wp2_with fail
   go_ret
   exact ⟨_,rfl,by rw [← hend.out]; exact HO2.out⟩
  ·have hz : ((s' : Int) != 0) = true := by simp; exact h0
   have hn := hid (Zio s' h0 HS2.out); have hl := hid (Z80 s' h0 HS2.out); have hll : Hid (pre.length ≤ 64) := hid (by have := congrArg List.length HP.out; simp at this; omega)
   have HT2 : Hid (TabD wr) := hid (Z09 HT.out HO2.out.below); have H0 := hid h0; clear h0; go_wp2_with fail
   refine (Zec s' HS2.out H0.out _ HT2.out).mono ?_; rintro e w' ⟨rfl,rfl⟩; go_wp2_with (at_builtin; refine wpList_append_own _ rfl _ _ 37 rfl w.heap.size 3 i0 (.int .i64 0) 1 8 Tryz.underlying37 HI.out HZ0.out HZ1.out HZ2.out rfl (by decide) _ _ _ rfl (HO2.out.own.alloc _) ⟨wr.heap.size,0,none⟩ 1 1 [.int .i64 (Lib.ctz 64 s' : Nat)] rfl rfl ?c1 ?c2 ?c3 ?c4 ?c5 ?_)
   case c1 =>
    intro j u hj; match j,hj with
    | 0,hj => simp at hj; subst hj; simp [Addr.add]
   case c2 => intro u hu; simp at hu; subst hu; rfl
   case c3 => have := hll.out; unfold maxLen; omega
   case c4 => have := hll.out; omega
   case c5 => exact Nat.le_trans HO2.out.below.size (by simp)
   intro v' w2 hown' hgrow _; have O2 := hid (Zjl HO2.out hown' hgrow); clear hown' hgrow; go_wp2_with fail
   refine (Zci s' HS2.out _ _).mono ?_; rintro e w' ⟨rfl,rfl⟩; go_wp2_with fail
   go_roundw
   case rel => exact ⟨pre ++ [Lib.ctz 64 s'],_,rfl,Zbp HS2.out _,by rw [← HP.out,hn.out]; simp,O2.out⟩
   case measure => simp [intOf]; exact hl.out
end Go.Proofs.YtfkommjlmolniaaGreatDoor
end
section

namespace Go.Proofs.YtfkommjlmolniaaGreatDoor
open Go.Lib (hid)
open Go.RowKit
theorem Zj9 (s o : Nat) (hs : s < 18446744073709551616) (ho : o < 18446744073709551616) (w : World) : Calls Tryz.prog 84 #[.int .u64 (s : Nat),.int .u64 (o : Nat)] w fun e w' => e = .returned (.int .u64 (s &&& o : Nat)) ∧ w = w' := by
 have hv := hid (u64_and_nat s o hs ho); go_enter Tryz.func84,Tryz.ntmps84
 go_wp2
 go_ret
 exact ⟨Z8s hv.out,rfl⟩
end Go.Proofs.YtfkommjlmolniaaGreatDoor
end
section

namespace Go.Proofs.YtfkommjlmolniaaGreatDoor
open Go.Lib (hid)
open Go.RowKit
def Row (w : World) (a : Option Addr) (zs : List Int) : Prop :=
 zs.length = 0 ∨ ∃ b off,a = some ⟨b,off,none⟩ ∧ ∀ j,j < zs.length → w.cell? ⟨b,off + j,none⟩ = some (.int .i64 (zs.getD j 0))
theorem Z6t (l : List Int) (k : Nat) (h : k < l.length) : l.take (k + 1) = l.take k ++ [l.getD k 0] := by
 rw [List.take_succ_eq_append_getElem h]; simp [List.getD_eq_getElem?_getD,List.getElem?_eq_getElem h]
theorem Zno (a : Option Addr) (cap : Nat) (w : World) : Calls Tryz.prog 61 #[.slice a 0 cap] w fun e w' => e = .returned (.int .u64 (ofN [] : Nat)) ∧ w = w' := by
 go_enter Tryz.func61,Tryz.ntmps61
 go_wp2
 refine wp_loop_rounds 1 ?_; rw [rounds_succ]; go_wp2
 go_ret
 exact ⟨rfl,rfl⟩
theorem Znp (b off cap : Nat) (zs : List Int) (w : World) (hbig : zs.length ≤ 9223372036854775807) (hc : ∀ j,j < zs.length → w.cell? ⟨b,off + j,none⟩ = some (.int .i64 (zs.getD j 0))) :
  Calls Tryz.prog 61 #[.slice (some ⟨b,off,none⟩) zs.length cap] w fun e w' => e = .returned (.int .u64 (ofN zs : Nat)) ∧ w = w' := by
 have HC := hid hc; clear hc; obtain ⟨len,hlen⟩ : ∃ len,len = zs.length := ⟨_,rfl⟩; rw [← hlen] at hbig ⊢; have HL := hid hlen; clear hlen; go_enter Tryz.func61,Tryz.ntmps61
 go_wp2
 go_loop [3,8] (fun s i => ∃ k : Nat,k ≤ len ∧ i = .int .i64 k ∧ s = .int .u64 (ofN (zs.take k) : Nat)) (fun _ i => len - (intOf i).toNat)
 case atStart => exact ⟨0,Nat.zero_le _,rfl,rfl⟩
 case round =>
  obtain ⟨k,hk,rfl,rfl⟩ := hrel; by_cases hlt : k < len
  ·have hcell := HC.out k (by rw [← HL.out]; exact hlt)
   have hn := hid (Zh5 (zs.take k)); have e1 : Hid (ofN (zs.take (k + 1)) = withN (ofN (zs.take k)) (zs.getD k 0)) := hid (by rw [Z6t _ _ (by rw [← HL.out]; exact hlt),Zk8])
   generalize zs.getD k 0 = x at hcell e1; generalize ofN (zs.take k) = s at hn e1; go_wp2_with (go_at_call 59; refine (Z5l _ hn.out _ _).mono ?_; rintro e w' ⟨rfl,rfl⟩)
   go_round
   case rel => exact ⟨k + 1,by omega,by go_num,by rw [e1.out]⟩
   case measure => simp [intOf]; omega
  ·obtain rfl : k = len := by omega
   have hz : Hid (zs.take k = zs) := hid (by rw [HL.out,List.take_length])
   go_wp2
   go_ret
   exact ⟨by rw [hz.out]; rfl,rfl⟩
theorem Zoe (a : Option Addr) (len cap : Nat) (zs : List Int) (w : World) (hz : len = zs.length) (hbig : len ≤ 9223372036854775807) (h : Row w a zs) : Calls Tryz.prog 61 #[.slice a len cap] w fun e w' => e = .returned (.int .u64 (ofN zs : Nat)) ∧ w = w' := by
 subst hz; rcases h with h | ⟨b,off,rfl,hc⟩
 ·obtain rfl : zs = [] := List.eq_nil_of_length_eq_zero h
  exact Zno _ _ _
 ·exact Znp b off cap zs w hbig hc
end Go.Proofs.YtfkommjlmolniaaGreatDoor
end
section

namespace Go.Proofs.YtfkommjlmolniaaGreatDoor
open Go.Lib (hid)
open Go.RowKit
variable {w : World} {A : InA} {x : Ins}
set_option maxHeartbeats 1000000 in
theorem Zkp (A : InA) (x : Ins) (w : World) (hl : x.cus.length ≤ 1000000) (hi : IsIns w.heap.size w A x) :
  Calls Tryz.prog 62 #[.agg (insC A x)] w fun e w' => e = .returned (.int .i64 (Z2j x.cus x.cus.length)) ∧ Below w.heap.size w w' := by
 have HG := hid (XBox.make (Below.refl _ w) A x); have hpp := hi.cus; have c6 := HG.out.cells.2.2.2.2.2.2.1; clear hi; unfold insC at *; go_enter Tryz.func62,Tryz.ntmps62
 go_wp2_with fail
 obtain ⟨W0,hW0⟩ : ∃ W0,w.alloc (.cells (insC A x) 34) = W0 := ⟨_,rfl⟩; unfold insC at hW0; rw [hW0] at HG ⊢; clear hW0 c6; have HX0 : Hid (XBox w W0 w.heap.size A x) := HG; clear HG; have HP := hid hpp; clear hpp; go_loopw [3,9] (fun sv iv wr => ∃ i : Nat,iv = .int .i64 (i : Int) ∧ sv = .int .i64 (Z2j x.cus i) ∧ i ≤ x.cus.length ∧ Hid (XBox w wr w.heap.size A x)) (fun _ iv _ => x.cus.length - (intOf iv).toNat)
 case atStart => exact ⟨0,rfl,rfl,Nat.zero_le _,HX0⟩
 case round =>
  obtain ⟨i,rfl,rfl,hi,HX⟩ := hrel; clear HX0; by_cases hlt : i < x.cus.length
  ·obtain ⟨b,off,y,hca,hb,hy,p0,p1,p2,p3⟩ := (HP.out.later HX.out.below).at_ hlt
   have HY : Hid (Z2j x.cus (i + 1) = wrap64 (Z2j x.cus i + y.1)) := hid (by rw [Z2j,Z11 hy])
   have HXN : Hid (XBox w (wr.alloc (.cells #[.int .i64 y.1,.int .i64 y.2.1,.int .i64 y.2.2.1,.int .i64 y.2.2.2] 53)) w.heap.size A x) := hid (HX.out.later ((Below.refl _ _).alloc (Nat.le_refl _) _)); rw [hca]; clear hy hca; go_wp2_with fail
   go_roundw
   case rel => exact ⟨i + 1,by go_num,by rw [HY.out],by omega,HXN⟩
   case measure => simp [intOf]; omega
  ·obtain rfl : i = x.cus.length := by omega
   go_wp2_with fail
   go_ret
   exact ⟨rfl,HX.out.below⟩
end Go.Proofs.YtfkommjlmolniaaGreatDoor
end
section

namespace Go.Proofs.YtfkommjlmolniaaGreatDoor
set_option maxHeartbeats 16000000
set_option maxRecDepth 100000
open Go.Lib (hid)
open Go.RowKit
variable {w wr w2 : World} {V : VA} {y : Vw} {B g c s z : Nat} {T : TypeId}
theorem Z97 {v : Value} {l : List Int} (h : w.ownsRow B T 1 v l.length (numsV l)) : ∃ a cp,v = .slice a l.length cp ∧ IsNums w.heap.size w a l.length l := by
 obtain ⟨a,cp,rfl⟩ := Z04 h; refine ⟨a,cp,rfl,rfl,?_⟩; rcases Nat.eq_zero_or_pos l.length with h0 | h0
 ·exact .inl h0
 ·obtain ⟨g,c2,e,h1,h2,_⟩ := Z0x h h0
  injection e with e1 e2 e3
  subst e1 e3; exact .inr ⟨g,0,rfl,h2,fun j x hx => by rw [Nat.zero_add]; exact Z4g h hx⟩
abbrev allI (z : Nat) : List Int := (allN z).map fun n : Nat => (n : Int)
theorem Z5e (s : Nat) (hs : s < 18446744073709551616) (w : World) (ht : TabD w) : Calls Tryz.prog 51 #[.int .u64 (s : Nat)] w fun e w' => ∃ a cp,e = .returned (.slice a (allN s).length cp) ∧ IsNums w'.heap.size w' a (allN s).length (allI s) ∧ Below w.heap.size w w' := by
 refine (Zgd s hs w ht).mono ?_; rintro e w' ⟨v,rfl,O⟩; have h := O.own; rw [show natsV (allN s) = numsV (allI s) by simp [natsV,numsV]] at h
 have hl : (allN s).length = (allI s).length := by simp
 rw [hl] at h; obtain ⟨a,cp,rfl,h2⟩ := Z97 h; exact ⟨a,cp,by rw [hl],by rw [hl]; exact h2,O.below⟩
theorem Z87 {k : Nat} {x : Int} (h : (allI z)[k]? = some x) : ∃ c : Nat,(allN z)[k]? = some c ∧ x = (c : Int) ∧ c < 64 ∧ z.testBit c = true := by
 rw [List.getElem?_map,Option.map_eq_some_iff] at h; obtain ⟨c,h1,h2⟩ := h; have := (Z2l z c).1 (List.mem_of_getElem? h1); exact ⟨c,h1,h2.symm,this⟩
def fromF (y : Vw) (z s : Nat) : Bool := decide ((y.zs.getD s 0) &&& z ≠ 0)
theorem Zcr (V : VA) (y : Vw) (z : Nat) (w : World) (hi : IsView w.heap.size w V y) (hz : z < 18446744073709551616) (hn : y.zs.length ≤ 60) :
  Calls Tryz.prog 60 #[.agg (viewC V y),.int .u64 (z : Int)] w fun e w' => ∃ t : Nat,e = .returned (.int .u64 (t : Int)) ∧ ServeTo t y.zs.length (fromF y z) ∧ Below w.heap.size w w' := by
 have HX := hid (VBox.make (Below.refl _ w) V y); have HI := hid hi; have HZ := hid hz; obtain ⟨c0,c1,c2,c3,c4,c5,c6,c7,c8,c9,c10⟩ := Z0c HX.out.blk; have HS0 := hid (ServeTo.zero (fromF y z)); clear hi hz; unfold viewC at *; go_enter Tryz.func60,Tryz.ntmps60
 go_wp2_with fail
 obtain ⟨W0,hW0⟩ : ∃ W0,w.alloc (.cells (viewC V y) 65) = W0 := ⟨_,rfl⟩; unfold viewC at hW0; rw [hW0] at HX ⊢; clear hW0 c0 c1 c2 c3 c4 c5 c6 c7 c8 c9 c10; go_loopw [5,11] (fun tv iv wr => ∃ i t : Nat,iv = .int .i64 (i : Int) ∧ tv = .int .u64 (t : Int) ∧ i ≤ y.zs.length ∧ Hid (ServeTo t i (fromF y z)) ∧ Hid (VBox w wr w.heap.size V y)) (fun _ iv _ => y.zs.length - (intOf iv).toNat)
 case atStart => exact ⟨0,0,rfl,rfl,Nat.zero_le _,HS0,HX⟩
 case round =>
  obtain ⟨i,t,rfl,rfl,hi,HS,HXR⟩ := hrel; clear HS0 HX; by_cases hlt : i < y.zs.length
  ·obtain ⟨b,off,u,hma,hu,hul,q0⟩ := (HXR.out.view HI.out).mays.at_ hlt
   have HU := hid hu; have HUL := hid hul; have hf : fromF y z i = decide (u &&& z ≠ 0) := by unfold fromF; rw [List.getD,hu]; rfl
   have HAL := hid (Zm8 (a := u) hul z); rw [hma]; clear hu hul hma; by_cases h0 : u &&& z = 0
   ·have HN := hid (HS.out.no (by rw [hf]; simp [h0]))
    have hb0 : (((u &&& z : Nat) : Int) != 0) = false := by rw [h0]; rfl
    clear hf h0; go_wp2_with (go_at_call 84; refine (Zj9 u z HUL.out HZ.out _).mono ?_; rintro e w9 ⟨rfl,rfl⟩)
    go_roundw
    case rel => exact ⟨i + 1,t,by go_num,rfl,by omega,HN,HXR⟩
    case measure => simp [intOf]; omega
   ·have HN := hid (HS.out.yes (by rw [hf]; simp [h0]) (by omega))
    have hb0 : (((u &&& z : Nat) : Int) != 0) = true := by simp; exact h0
    have HTL := hid HS.out.1; clear hf h0; go_wp2_with (first | (go_at_call 84; refine (Zj9 u z HUL.out HZ.out _).mono ?_; rintro e w9 ⟨rfl,rfl⟩) | (go_at_call 59; refine (Z5l t HTL.out _ _).mono ?_; rintro e w9 ⟨rfl,rfl⟩))
    go_roundw
    case rel => exact ⟨i + 1,_,by go_num,rfl,by omega,HN,HXR⟩
    case measure => simp [intOf]; omega
  ·obtain rfl : i = y.zs.length := by omega
   go_wp2_with fail
   go_ret
   exact ⟨t,rfl,HS.out,HXR.out.below⟩
theorem Z6x {a b : Value} (h : wr.heap[g]? = some (.cells #[a,b] T (0,0))) : wr.cell? ⟨g,0,none⟩ = some a ∧ wr.cell? ⟨g,1,none⟩ = some b := by simp [World.cell?,h]
def custB (C z : Nat) : Bool := (allN z).all (fun c => decide (c < C))
theorem Z46 (V : VA) (y : Vw) (z : Nat) (w : World) (ht : TabD w) (hz : z < 18446744073709551616) :
  Calls Tryz.prog 44 #[.agg (viewC V y),.int .u64 (z : Int)] w fun e w' => e = .returned (.bool (custB y.x.cus.length z)) ∧ Below w.heap.size w w' := by
 have HX := hid (VBox.make (Below.refl _ w) V y); have HT := hid ht; have HZ := hid hz; obtain ⟨c0,c1,c2,c3,c4,c5,c6,c7,c8,c9,c10⟩ := Z0c HX.out.blk; have hlen := Z2k z; clear ht hz; unfold viewC at *; go_enter Tryz.func44,Tryz.ntmps44
 go_wp2_with fail
 obtain ⟨W0,hW0⟩ : ∃ W0,w.alloc (.cells (viewC V y) 65) = W0 := ⟨_,rfl⟩; unfold viewC at hW0; rw [hW0] at HX ⊢; clear hW0 c0 c1 c2 c3 c4 c5 c6 c7 c8 c9 c10; refine (Z5e z HZ.out _ (Z09 HT.out HX.out.below)).mono ?_; rintro e w1 ⟨a,cp,rfl,hnums,hb1⟩; have HX1 := hid (HX.out.later hb1); have HN1 := hid hnums; obtain ⟨n,hn1⟩ : ∃ n,(allN z).length = n := ⟨_,rfl⟩; rw [hn1] at HN1 hlen ⊢; have HNL := hid hn1; clear hb1 hnums HX hn1; go_wp2_with fail
 go_loopw [10] (fun iv wr => ∃ i : Nat,iv = .int .i64 (i : Int) ∧ i ≤ n ∧ Hid (∀ c ∈ (allN z).take i,c < y.x.cus.length) ∧ Hid (VBox w wr w.heap.size V y) ∧ Hid (IsNums wr.heap.size wr a n (allI z))) (fun iv _ => n - (intOf iv).toNat)
 case atStart => exact ⟨0,rfl,Nat.zero_le _,hid (by simp),HX1,HN1⟩
 case round =>
  obtain ⟨i,rfl,hi,HC,HXR,HNR⟩ := hrel; clear HX1 HN1; by_cases hlt : i < n
  ·obtain ⟨b,off,u,hma,hu,q0⟩ := HNR.out.at_ hlt
   obtain ⟨c,hc,rfl,hc64,hcb⟩ := Z87 hu; have HCC := hid hc; obtain ⟨c0,c1,c2,c3,c4,c5,c6,c7,c8,c9,c10⟩ := Z0c HXR.out.blk; rw [hma]; have HMA := hid hma; clear hu hc hma hcb; by_cases h0 : c < y.x.cus.length
   ·have hge : ¬ ((y.x.cus.length : Int) ≤ (c : Int)) := by omega
    go_wp2_with fail
    go_roundw
    case rel => exact ⟨i + 1,by go_num,by omega,hid (fun d hd => by
     rw [List.take_add_one,HCC.out,List.mem_append] at hd; rcases hd with hd | hd
     ·exact HC.out d hd
     ·simp at hd; subst hd; exact h0),HXR,by have h := HNR; rw [HMA.out] at h; exact h⟩
    case measure => simp [intOf]; omega
   ·have hge : (y.x.cus.length : Int) ≤ (c : Int) := by omega
    have hv : Hid (custB y.x.cus.length z = false) := hid (by
     unfold custB; rw [List.all_eq_false]; exact ⟨c,List.mem_of_getElem? HCC.out,by simpa using h0⟩)
    go_wp2_with fail
    go_ret
    exact ⟨by rw [hv.out]; rfl,HXR.out.below⟩
  ·obtain rfl : i = n := by omega
   have hv : Hid (custB y.x.cus.length z = true) := hid (by
    unfold custB; rw [List.all_eq_true]; intro d hd; have h2 := HC.out d (by rw [List.take_of_length_le (by rw [HNL.out]; exact Nat.le_refl _)]; exact hd)
    simpa using h2)
   go_wp2_with fail
   go_ret
   exact ⟨by rw [hv.out]; rfl,HXR.out.below⟩
theorem Z6y {l : List Pi} (h0 : ∀ c,c < l.length → 0 ≤ (l.getD c (0,0,0,0)).1 ∧ (l.getD c (0,0,0,0)).1 ≤ 1000000000) (hl : l.length ≤ 60) : ∀ k,k ≤ l.length → Z2j l k = sumD (fun c => (l.getD c (0,0,0,0)).1) k ∧ 0 ≤ Z2j l k ∧ Z2j l k ≤ (k : Int) * 1000000000
 | 0,_ => by simp [Z2j,sumD]
 | k + 1,hk => by
  obtain ⟨h1,h2,h3⟩ := Z6y h0 hl k (by omega)
  have h4 := h0 k (by omega)
  have h5 : Z2j l (k + 1) = Z2j l k + (l.getD k (0,0,0,0)).1 := by rw [Z2j,IntWalk.wrap64_in _ (by omega)]
  refine ⟨by rw [h5,sumD,h1],by omega,by rw [h5]; omega⟩
theorem Zel {x : Ins} (h : May x) : Z2j x.cus x.cus.length = Z27 x := (Z6y (fun c hc => by have := h.loads c hc; unfold ldI at this; omega) (by have := h.nc; omega) _ (Nat.le_refl _)).1
theorem Z2c {P : Program} {md : Region.Mode} {ops : Array Oper} {Q : Exit → Act → World → Prop} {S : World → Prop} (i : Nat) {oi : Oper} {v : Value} {fuel : Nat} {listed : Array Bool} {a : Act} {w : World} (hS : S w) (h : wpAnyH P md ops Q S fuel (listed.setIfInBounds i true) (a.put oi.dst v) w) (hi : ops[i]? = some oi := by exact rfl) (hs : Region.noSelect ops = true := by kernel_rfl) (hf : Region.free md ops listed i = true := by kernel_rfl) (hr : (Region.ready md ops listed).contains i = true := by kernel_rfl) (hQ : ∀ c a w,Q (.panic c) (a.put oi.dst v) w → Q (.panic c) a w := by exact fun _ _ _ h => h) (hw : Region.wanted oi (yielded ops a.tmps) = true := by rfl) (y : ∀ w,S w → (execOp a.eval oi).run P w = .ok (.value v) w := by intro Wz hWz; have k0 := Z0c hWz.1.blk; have k1 := Z6x hWz.2; obtain ⟨k2,k3⟩ := k1; obtain ⟨c0,c1,c2,c3,c4,c5,c6,c7,c8,c9,c10⟩ := k0; clear hWz; go_simp; (try with_reducible rfl)) : wpAnyH P md ops Q S (fuel + 1) listed a w := stpT i hS h hi hs hf hr hQ hw y
theorem Zgm (V : VA) (y : Vw) (m r : Int) (w : World) (hi : IsView w.heap.size w V y) (hm : May y.x) (hm1 : 0 ≤ m ∧ m ≤ 60) (hr : 0 ≤ r ∧ r ≤ 1000000000) :
  Calls Tryz.prog 43 #[.agg (viewC V y),.agg #[.int .i64 m,.int .i64 r]] w fun e w' => e = .returned (.bool (decide (m * r < Z27 y.x))) ∧ Below w.heap.size w w' := by
 have hb0 := Z0g w (.cells (viewC V y) 65); have hX0 := VBox.make (Below.refl _ w) V y; have HF := hid (heap_alloc_new (w.alloc (.cells (viewC V y) 65)) (.cells #[.int .i64 m,.int .i64 r] 29)); have HX := hid (hX0.later (Z0g (w.alloc (.cells (viewC V y) 65)) (.cells #[.int .i64 m,.int .i64 r] 29))); have HI := hid hi; have hpr : 0 ≤ m * r := Int.mul_nonneg hm1.1 hr.1; have hpr2 : m * r ≤ 60 * 1000000000 := Int.le_trans (Int.mul_le_mul_of_nonneg_right hm1.2 hr.1) (Int.mul_le_mul_of_nonneg_left hr.2 (by omega))
 have hwr : wrap64 (m * r) = m * r := IntWalk.wrap64_in _ (by omega)
 have hwr2 : IntKind.i64.wrap (m * r) = m * r := by rw [IntKind.wrap_i64]; omega
 have HLT := hid (Zel hm); have hnc := hm.nc; have HMC := hid (show y.x.cus.length ≤ 1000000 by omega)
 obtain ⟨W0,hW0⟩ : ∃ W0,(w.alloc (.cells (viewC V y) 65)).alloc (.cells #[.int .i64 m,.int .i64 r] 29) = W0 := ⟨_,rfl⟩; obtain ⟨gf,hgf⟩ : ∃ gf,(w.alloc (.cells (viewC V y) 65)).heap.size = gf := ⟨_,rfl⟩; have hgf2 : w.heap.size + 1 = gf := by rw [← hgf]; simp
 rw [hW0] at HX HF; rw [hgf] at HF; have HW0 := hid hW0; have HG := hid hgf2; clear hb0 hX0 hi hm hm1 hr hW0 hgf hgf2; unfold viewC at *; go_enter Tryz.func43,Tryz.ntmps43
 go_wp2_with fail
 rw [HW0.out,HG.out]; clear HW0; have HX1 := hid (HX.out.later (Below.refl _ _).drew); have HF1 : Hid (W0.drew.heap[gf]? = some (.cells #[.int .i64 m,.int .i64 r] 29 (0,0))) := HF; refine wp_region_held_drew (S := fun Wz => VBox w Wz w.heap.size V y ∧ Wz.heap[gf]? = some (.cells #[.int .i64 m,.int .i64 r] 29 (0,0))) (by kernel_rfl) ⟨HX1.out,HF1.out⟩ (fun hHeld => ?_)
 refine Z2c 0 hHeld ?_; try simp only [Act.put,layT]
 refine Z2c 1 hHeld ?_; try simp only [Act.put,layT]
 refine Z2c 2 hHeld ?_; try simp only [Act.put,layT]
 refine Z2c 3 hHeld ?_; try simp only [Act.put,layT]
 refine Z2c 4 hHeld ?_; try simp only [Act.put,layT]
 refine Z2c 5 hHeld ?_; try simp only [Act.put,layT]
 refine Z2c 6 hHeld ?_; try simp only [Act.put,layT]
 refine stpR 7 (fun K hK => ?_); go_simp; refine (Zkp V.A y.x _ HMC.out (hHeld.1.view HI.out).ins).mono ?_; rintro e w3 ⟨rfl,hb3⟩; have hd3 : VBox w w3 w.heap.size V y ∧ w3.heap[gf]? = some (.cells #[.int .i64 m,.int .i64 r] 29 (0,0)) := ⟨hHeld.1.later hb3,(hb3.block gf (Array.getElem?_eq_some_iff.1 hHeld.2).1).trans hHeld.2⟩; clear hb3; rw [HLT.out]; refine hK.out _ _ ?_ (fun hHeld => ?_)
 ·exact hd3
 clear hK K; try simp only [Act.put,layT]
 refine stpT 8 hHeld ?_ (y := fun Wz hWz => by clear hWz; go_simp; (try with_reducible rfl))
 try simp only [Act.put,layT]
 refine stpT 9 hHeld ?_ (y := fun Wz hWz => by clear hWz; go_simp; (try with_reducible rfl))
 try simp only [Act.put,layT]
 refine wpAnyH_done (by kernel_rfl) ?_ _
 go_wp2_with fail
 go_ret
 exact ⟨by simp,hd3.1.below⟩
theorem Zgn (V : VA) (y : Vw) (c : Nat) (w : World) (hi : IsView w.heap.size w V y) (hc : c < y.x.cus.length) :
  Calls Tryz.prog 42 #[.agg (viewC V y),.int .i64 1,.int .i64 (c : Int)] w fun e w' => e = .returned (.bool (decide (y.x.br < ldI y.x c))) ∧ Below w.heap.size w w' := by
 have HX := hid ((VBox.make (Below.refl _ w) V y)); have HI := hid hi; obtain ⟨c0,c1,c2,c3,c4,c5,c6,c7,c8,c9,c10⟩ := Z0c HX.out.blk; have hc0 : (0 : Int) ≤ (c : Int) := by omega
 have hc1 : (c : Int) < (y.x.cus.length : Int) := by omega
 clear hi; unfold viewC at *; go_enter Tryz.func42,Tryz.ntmps42
 go_wp2_with fail
 obtain ⟨W0,hW0⟩ : ∃ W0,w.alloc (.cells (viewC V y) 65) = W0 := ⟨_,rfl⟩; unfold viewC at hW0; rw [hW0] at HX ⊢; clear hW0 c0 c1 c2 c3 c4 c5 c6 c7 c8 c9 c10; have HX1 : Hid (VBox w W0.drew w.heap.size V y) := hid (HX.out.later (Below.refl _ _).drew); obtain ⟨b,off,l,hca,hb,hl,q0,q1,q2,q3⟩ := (HX1.out.view HI.out).ins.cus.at_ hc; have HV := hid (Zgx hl); have HCA := hid hca; have HQ := hid q0; clear hl hca q0 q1 q2 q3; refine wp_region_held_drew (S := fun Wz => VBox w Wz w.heap.size V y ∧ Wz.cell? ⟨b,off + c * 4,none⟩ = some (.int .i64 l.1)) (by kernel_rfl) ⟨HX1.out,HQ.out⟩ (fun hHeld => ?_)
 refine stpT 0 hHeld ?_ (y := fun Wz hWz => by have k6 := Z1l hWz.1.blk HCA.out; have k0 := Z0c hWz.1.blk; have q0 := hWz.2; obtain ⟨c0,c1,c2,c3,c4,c5,-,c7,c8,c9,c10⟩ := k0; clear hWz; go_simp; (try with_reducible rfl))
 try simp only [Act.put,layT]
 refine stpT 1 hHeld ?_ (y := fun Wz hWz => by have k6 := Z1l hWz.1.blk HCA.out; have k0 := Z0c hWz.1.blk; have q0 := hWz.2; obtain ⟨c0,c1,c2,c3,c4,c5,-,c7,c8,c9,c10⟩ := k0; clear hWz; go_simp; (try with_reducible rfl))
 try simp only [Act.put,layT]
 refine stpT 2 hHeld ?_ (y := fun Wz hWz => by have k6 := Z1l hWz.1.blk HCA.out; have k0 := Z0c hWz.1.blk; have q0 := hWz.2; obtain ⟨c0,c1,c2,c3,c4,c5,-,c7,c8,c9,c10⟩ := k0; clear hWz; go_simp; (try with_reducible rfl))
 try simp only [Act.put,layT]
 refine stpT 3 hHeld ?_ (y := fun Wz hWz => by have k6 := Z1l hWz.1.blk HCA.out; have k0 := Z0c hWz.1.blk; have q0 := hWz.2; obtain ⟨c0,c1,c2,c3,c4,c5,-,c7,c8,c9,c10⟩ := k0; clear hWz; go_simp; (try with_reducible rfl))
 try simp only [Act.put,layT]
 refine stpT 4 hHeld ?_ (y := fun Wz hWz => by have k6 := Z1l hWz.1.blk HCA.out; have k0 := Z0c hWz.1.blk; have q0 := hWz.2; obtain ⟨c0,c1,c2,c3,c4,c5,-,c7,c8,c9,c10⟩ := k0; clear hWz; go_simp; (try with_reducible rfl))
 try simp only [Act.put,layT]
 refine stpT 5 hHeld ?_ (y := fun Wz hWz => by have k6 := Z1l hWz.1.blk HCA.out; have k0 := Z0c hWz.1.blk; have q0 := hWz.2; obtain ⟨c0,c1,c2,c3,c4,c5,-,c7,c8,c9,c10⟩ := k0; clear hWz; go_simp; (try with_reducible rfl))
 try simp only [Act.put,layT]
 refine stpT 6 hHeld ?_ (y := fun Wz hWz => by have k6 := Z1l hWz.1.blk HCA.out; have k0 := Z0c hWz.1.blk; have q0 := hWz.2; obtain ⟨c0,c1,c2,c3,c4,c5,-,c7,c8,c9,c10⟩ := k0; clear hWz; go_simp; (try with_reducible rfl))
 try simp only [Act.put,layT]
 refine stpT 7 hHeld ?_ (y := fun Wz hWz => by have k6 := Z1l hWz.1.blk HCA.out; have k0 := Z0c hWz.1.blk; have q0 := hWz.2; obtain ⟨c0,c1,c2,c3,c4,c5,-,c7,c8,c9,c10⟩ := k0; clear hWz; go_simp; (try with_reducible rfl))
 try simp only [Act.put,layT]
 refine stpT 8 hHeld ?_ (y := fun Wz hWz => by have k6 := Z1l hWz.1.blk HCA.out; have k0 := Z0c hWz.1.blk; have q0 := hWz.2; obtain ⟨c0,c1,c2,c3,c4,c5,-,c7,c8,c9,c10⟩ := k0; clear hWz; go_simp; (try with_reducible rfl))
 try simp only [Act.put,layT]
 refine stpT 9 hHeld ?_ (y := fun Wz hWz => by have k6 := Z1l hWz.1.blk HCA.out; have k0 := Z0c hWz.1.blk; have q0 := hWz.2; obtain ⟨c0,c1,c2,c3,c4,c5,-,c7,c8,c9,c10⟩ := k0; clear hWz; go_simp; (try with_reducible rfl))
 try simp only [Act.put,layT]
 refine stpT 10 hHeld ?_ (y := fun Wz hWz => by have k6 := Z1l hWz.1.blk HCA.out; have k0 := Z0c hWz.1.blk; have q0 := hWz.2; obtain ⟨c0,c1,c2,c3,c4,c5,-,c7,c8,c9,c10⟩ := k0; clear hWz; go_simp; (try with_reducible rfl))
 try simp only [Act.put,layT]
 refine stpT 11 hHeld ?_ (y := fun Wz hWz => by have k6 := Z1l hWz.1.blk HCA.out; have k0 := Z0c hWz.1.blk; have q0 := hWz.2; obtain ⟨c0,c1,c2,c3,c4,c5,-,c7,c8,c9,c10⟩ := k0; clear hWz; go_simp; (try with_reducible rfl))
 try simp only [Act.put,layT]
 refine stpT 12 hHeld ?_ (y := fun Wz hWz => by have k6 := Z1l hWz.1.blk HCA.out; have k0 := Z0c hWz.1.blk; have q0 := hWz.2; obtain ⟨c0,c1,c2,c3,c4,c5,-,c7,c8,c9,c10⟩ := k0; clear hWz; go_simp; (try with_reducible rfl))
 try simp only [Act.put,layT]
 refine wpAnyH_done (by kernel_rfl) ?_ _
 go_wp2_with fail
 go_ret
 exact ⟨by rw [HV.out]; simp,HX1.out.below⟩
theorem Zml (w : World) (c : Int) (T : TypeId) (z : Nat) (hz : w.heap.size = z) : Row (w.alloc (.cells #[.int .i64 c] T)) (some ⟨z,0,none⟩) [c] := .inr ⟨z,0,rfl,fun j hj => by
 have h0 : j = 0 := by simp at hj; exact hj
 subst h0; have h := Z1b w (.int .i64 c) T z hz 0 _ rfl; simpa [Addr.add_lit] using h⟩
theorem Zem (V : VA) (y : Vw) (c : Nat) (w : World) (hi : IsView w.heap.size w V y) (hc : c < 64) (hn : y.zs.length ≤ 60) :
  Calls Tryz.prog 42 #[.agg (viewC V y),.int .i64 2,.int .i64 (c : Int)] w fun e w' => ∃ t : Nat,e = .returned (.bool (decide (t = 0))) ∧ ServeTo t y.zs.length (fromF y (ofN [(c : Int)])) ∧ Below w.heap.size w w' := by
 have HX := hid ((VBox.make (Below.refl _ w) V y)); have HI := hid hi; obtain ⟨c0,c1,c2,c3,c4,c5,c6,c7,c8,c9,c10⟩ := Z0c HX.out.blk; have HN := hid hn; clear hi hn; unfold viewC at *; go_enter Tryz.func42,Tryz.ntmps42
 go_wp2_with fail
 obtain ⟨W0,hW0⟩ : ∃ W0,w.alloc (.cells (viewC V y) 65) = W0 := ⟨_,rfl⟩; unfold viewC at hW0; rw [hW0] at HX ⊢; clear hW0 c0 c1 c2 c3 c4 c5 c6 c7 c8 c9 c10; have HX1 : Hid (VBox w W0.drew w.heap.size V y) := hid (HX.out.later (Below.refl _ _).drew); refine wp_region_held_drew (S := fun Wz => VBox w Wz w.heap.size V y) (by kernel_rfl) HX1.out (fun hHeld => ?_)
 refine stpT 0 hHeld ?_ (y := fun Wz hWz => by obtain ⟨c0,c1,c2,c3,c4,c5,c6,c7,c8,c9,c10⟩ := Z0c hWz.blk; clear hWz; go_simp; (try with_reducible rfl))
 try simp only [Act.put,layT]
 refine stpT 1 hHeld ?_ (y := fun Wz hWz => by obtain ⟨c0,c1,c2,c3,c4,c5,c6,c7,c8,c9,c10⟩ := Z0c hWz.blk; clear hWz; go_simp; (try with_reducible rfl))
 try simp only [Act.put,layT]
 refine stpR 2 (fun K hK => ?_); go_simp; have hd2 := hHeld.later (Z0g W0.drew (.cells #[.int .i64 (c : Int)] 3)); have HR2 : Hid (Row (W0.drew.alloc (.cells #[.int .i64 (c : Int)] 3)) (some ⟨W0.heap.size,0,none⟩) [(c : Int)]) := hid (Zml W0.drew (c : Int) _ _ rfl); refine hK.out _ _ ?_ (fun hHeld => ?_)
 ·exact hd2
 clear hK K; try simp only [Act.put,layT]
 refine stpR 3 (fun K hK => ?_); go_simp; refine (Zoe _ 1 1 [(c : Int)] _ rfl (by omega) HR2.out).mono ?_
 rintro e w3 ⟨rfl,rfl⟩; refine hK.out _ _ ?_ (fun hHeld => ?_)
 ·exact hHeld
 clear hK K; try simp only [Act.put,layT]
 refine stpR 4 (fun K hK => ?_); go_simp; refine (Zcr V y _ _ (hHeld.view HI.out) (Zh5 _) HN.out).mono ?_; rintro e w4 ⟨t,rfl,hs,hb4⟩; have hd4 := hHeld.later hb4; have HS := hid hs; clear hb4 hs; refine hK.out _ _ ?_ (fun hHeld => ?_)
 ·exact hd4
 clear hK K; try simp only [Act.put,layT]
 have htb : ((t : Int) == 0) = decide (t = 0) := by by_cases h : t = 0 <;> simp [h]
 refine stpT 5 hHeld ?_ (y := fun Wz hWz => by clear hWz; go_simp; (try with_reducible rfl))
 try simp only [Act.put,layT]
 refine stpT 6 hHeld ?_ (y := fun Wz hWz => by clear hWz; go_simp; (try with_reducible rfl))
 try simp only [Act.put,layT]
 refine wpAnyH_done (by kernel_rfl) ?_ _
 go_wp2_with fail
 go_ret
 exact ⟨t,by simp,HS.out,hd4.below⟩
end Go.Proofs.YtfkommjlmolniaaGreatDoor
end
