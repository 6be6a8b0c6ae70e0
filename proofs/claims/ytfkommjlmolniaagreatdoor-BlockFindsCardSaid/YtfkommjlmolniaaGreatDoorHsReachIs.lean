/- Joined: ReachIs. -/
import Derived.Test.YtfkommjlmolniaaGreatDoorHd17
set_option linter.unusedVariables false
section

namespace Go.Proofs.YtfkommjlmolniaaGreatDoor
set_option maxHeartbeats 16000000
set_option maxRecDepth 100000
open Go.Lib (hid)
open Go.RowKit
variable {w wr w2 : World} {A : InA} {x : Ins} {B g s i k p q c z : Nat} {rd ou ba : List Int}
theorem Ze2 : (Tryz.prog.info? 42).map (fun i => (i.zero,i.size,i.bytes)) = some (some (.int .u64 0),1,8) := by kernel_rfl
theorem Zg4 (A : InA) (x : Ins) (w : World) (hi : IsIns w.heap.size w A x) (hl3 : x.cost.length ≤ 9223372036854775807) (hl4 : x.time.length ≤ 9223372036854775807) (hno : Z0m x ≠ 0) :
  Calls Tryz.prog 32 #[.agg (insC A x)] w (Empty w) := by
 have HX := hid (XBox.make (Below.refl _ w) A x); have HR := hid (fun (W : World) (h : IsIns W.heap.size W A x) => Z6i A x W h hl3 hl4 hno); have HI := hid hi; have hmk := run_make_row' (P := Tryz.prog) 63 42 (.int .u64 0) 8 Tryz.underlying63 Ze2 rfl .i64 .i64 0 (by omega) (by omega)
 simp only [Int.natCast_zero] at hmk
 clear hi hl3 hl4 hno; unfold insC at HR HX ⊢; go_enter Tryz.func32,Tryz.ntmps32
 go_wp2_with (go_at_call 30; refine (HR.out _ (HX.out.pipesHere HI.out)).mono ?_; rintro e w2 ⟨ra,rc,rfl,hb2⟩; have HX2 := hid (HX.out.later hb2); clear hb2)
 have HB3 := hid (HX2.out.below.alloc HX2.out.below.size (.cells (madeCells #[.int .u64 0] 0) 42)); obtain ⟨w3,hw3⟩ : ∃ w3,w2.alloc (.cells (madeCells #[.int .u64 0] 0) 42) = w3 := ⟨_,rfl⟩; rw [hw3] at HB3; rw [hw3]; clear hw3 hmk; go_loopw [14] (fun iv wr => iv = .int .i64 0 ∧ Hid (Below w.heap.size w wr)) (fun _ _ => 0)
 case atStart => exact ⟨rfl,HB3⟩
 case round =>
  obtain ⟨rfl,HB⟩ := hrel; go_wp2_with fail
  go_ret
  exact ⟨_,_,rfl,HB.out⟩
def ServedTo (x : Ins) (rd : List Int) (zf : Nat → Nat) (k : Nat) : Prop := ∀ s,s < k → ∃ ou ba : List Int,OutOf x s ou ∧ BackOf x s ba ∧ ServeTo (zf s) x.cus.length (fun c => mayI x rd ou ba s c)
theorem Zg5 {zf : Nat → Nat} (hm : May x) (hrd : ReadyOf x rd) (h : ServedTo x rd zf x.sats.length) : Z7u x ((List.range x.sats.length).map zf) := by
 have hnc := hm.nc; refine ⟨by simp,fun s c => (zf s).testBit c,⟨rd,hrd,fun s hs => ?_⟩,fun s z hz c hc => ?_⟩
 ·obtain ⟨ou,ba,h1,h2,h3⟩ := h s hs
  refine ⟨ou,ba,h1,h2,fun c hc => ?_⟩; show (zf s).testBit c = _
  rw [h3.2 c (by omega),decide_eq_true hc,Bool.true_and]
 ·rw [List.getElem?_map] at hz
  by_cases hs : s < x.sats.length
  ·rw [List.getElem?_range hs] at hz
   simp only [Option.map_some,Option.some.injEq] at hz
   subst hz; obtain ⟨ou,ba,h1,h2,h3⟩ := h s hs; have h4 := h3.2 c hc; show (zf s).testBit c = (decide (c < x.cus.length) && (zf s).testBit c)
   rw [h4]; cases decide (c < x.cus.length) <;> rfl
  ·rw [List.getElem?_eq_none (by simp; omega)] at hz
   cases hz
theorem Zlr {G N : Nat} {zf : Nat → Nat} (h : w.rowIs G 42 N (fun j => .int .u64 ((zf j : Nat) : Int))) (hz : ∀ j,j < N → zf j < 18446744073709551616) : IsSets w.heap.size w (some ⟨G,0,none⟩) N ((List.range N).map zf) := by
 refine ⟨by simp,fun z hm => ?_,.inr ⟨G,0,rfl,h.lt,fun j z hj => ?_⟩⟩
 ·rw [List.mem_map] at hm
  obtain ⟨j,hj,rfl⟩ := hm; exact hz j (List.mem_range.1 hj)
 ·rw [List.getElem?_map] at hj
  by_cases hjn : j < N
  ·rw [List.getElem?_range hjn] at hj
   simp only [Option.map_some,Option.some.injEq] at hj
   subst hj; rw [Nat.zero_add]; exact h.cell hjn
  ·rw [List.getElem?_eq_none (by simp; omega)] at hj
   cases hj
def setZ (zf : Nat → Nat) (k z j : Nat) : Nat := if j = k then z else zf j
theorem ServedTo.next {zf : Nat → Nat} (h : ServedTo x rd zf k) (h1 : OutOf x k ou) (h2 : BackOf x k ba) (h3 : ServeTo z x.cus.length (fun c => mayI x rd ou ba k c)) : ServedTo x rd (setZ zf k z) (k + 1) := fun s hs => by
 by_cases e : s = k
 ·subst e
  exact ⟨ou,ba,h1,h2,by unfold setZ; rw [if_pos rfl]; exact h3⟩
 ·obtain ⟨o,b,e1,e2,e3⟩ := h s (by omega)
  exact ⟨o,b,e1,e2,by unfold setZ; rw [if_neg e]; exact e3⟩
def zRow (zf : Nat → Nat) (k j : Nat) : Value := .int .u64 (((if j < k then zf j else 0 : Nat)) : Int)
theorem Zj4 {zf : Nat → Nat} {j : Nat} : (if j = k then .int .u64 (z : Int) else zRow zf k j) = zRow (setZ zf k z) (k + 1) j := by
 unfold zRow setZ; by_cases e : j = k
 ·subst e; simp
 ·rw [if_neg e,if_neg e]
  have : (j < k + 1) = (j < k) := by apply propext; omega
  simp only [this]
theorem Zj5 (A : InA) (x : Ins) (w : World) (hi : IsIns w.heap.size w A x) (hm : May x) :
  Calls Tryz.prog 32 #[.agg (insC A x)] w fun e w' => ∃ (zs : List Nat) (a : Option Addr) (c : Nat),e = .returned (.slice a zs.length c) ∧ IsSets w'.heap.size w' a zs.length zs ∧ Z7u x zs ∧ Below w.heap.size w w' := by
 have HX := hid (XBox.make (Below.refl _ w) A x); have HI := hid hi; have HM := hid hm; have HR := hid (fun (W : World) (h : IsIns W.heap.size W A x) => Zaz A x W h hm); have hns1 := hm.ns.1; have hns2 := hm.ns.2; have hmk := run_make_row' (P := Tryz.prog) 63 42 (.int .u64 0) 8 Tryz.underlying63 Ze2 rfl .i64 .i64 x.sats.length (by omega) (by omega)
 clear hi hm; unfold insC at HR HX ⊢; go_enter Tryz.func32,Tryz.ntmps32
 go_wp2_with (go_at_call 30; refine (HR.out _ (HX.out.pipesHere HI.out)).mono ?_; rintro e w2 ⟨rd,ra,rc,rfl,hn,hrd,hb2⟩; have HX2 := hid (HX.out.later hb2); have HRD := hid hrd; have HNR := hid hn; have hrl := hrd.1; rw [hrl]; have HRL := hid hrl; clear hb2 hrd hn hrl)
 obtain ⟨bo,oo,hoa,hbo,hoc⟩ : ∃ b off,ra = some ⟨b,off,none⟩ ∧ b < w2.heap.size ∧ ∀ (j : Nat) (v : Int),rd[j]? = some v → w2.cell? ⟨b,off + j,none⟩ = some (.int .i64 v) := by
  rcases HNR.out.2 with h | h
  ·have := HRL.out; omega
  ·exact h
 subst hoa; have HBO := hid hbo; have HOC := hid hoc; clear hbo hoc HNR; have HX3 := hid (HX2.out.later ((Below.refl w2.heap.size w2).alloc (Nat.le_refl _) (.cells (madeCells #[.int .u64 0] x.sats.length) 42))); have HB3 : Hid (Below w2.heap.size w2 (w2.alloc (.cells (madeCells #[.int .u64 0] x.sats.length) 42))) := hid ((Below.refl w2.heap.size w2).alloc (Nat.le_refl _) _); have HR3 := hid (World.rowIs_made w2 (.int .u64 0) x.sats.length 42); obtain ⟨w3,hw3⟩ : ∃ w3,w2.alloc (.cells (madeCells #[.int .u64 0] x.sats.length) 42) = w3 := ⟨_,rfl⟩; obtain ⟨G,hG⟩ : ∃ G,w2.heap.size = G := ⟨_,rfl⟩; rw [hw3] at HX3 HB3 HR3; rw [hw3,hG]; rw [hG] at HR3; have HGB : Hid (w2.heap.size ≤ G) := hid (by omega)
 have HGX : Hid (w.heap.size < G) := hid (by have := HX2.out.lt; omega)
 clear hw3 hG hmk HX2; have HR4 : Hid (w3.rowIs G 42 x.sats.length (zRow (fun _ => 0) 0)) := hid (HR3.out.congr fun j _ => by simp [zRow])
 have HZ0 : Hid (ServedTo x rd (fun _ => 0) 0) := hid (fun s hs => by omega)
 clear HR3; go_loopw [14] (fun iv wr => ∃ (k : Nat) (zf : Nat → Nat),iv = .int .i64 (k : Int) ∧ k ≤ x.sats.length ∧ Hid (XBox w wr w.heap.size A x) ∧ Hid (Below w2.heap.size w2 wr) ∧ Hid (wr.rowIs G 42 x.sats.length (zRow zf k)) ∧ Hid (ServedTo x rd zf k)) (fun iv _ => x.sats.length - (intOf iv).toNat)
 case atStart => exact ⟨0,_,rfl,Nat.zero_le _,HX3,HB3,HR4,HZ0⟩
 case round =>
  obtain ⟨k,zf,rfl,hk,HX,HB,HRW,HZ⟩ := hrel; clear HX3 HB3 HR4 HZ0; by_cases hlt : k < x.sats.length
  ·obtain ⟨r,hr⟩ : ∃ r,rd[k]? = some r := ⟨_,List.getElem?_eq_getElem (by have := HRL.out; omega)⟩
   have v0 := (HB.out.cell (p := ⟨bo,oo + k,none⟩) HBO.out).trans (HOC.out k r hr); have HSV := hid (fun (W : World) (h : IsIns W.heap.size W A x) => Ziz A x W h HM.out HRD.out hlt hr); obtain ⟨c0,c1,c2,c3,c4,c5,c6,c7,c8⟩ := HX.out.cells; have hkr : (k : Int) < (rd.length : Int) := by have := HRL.out; omega
   clear hr; go_wp2_with fail
   refine (HSV.out _ (HX.out.pipesHere HI.out)).mono ?_; rintro e w5 ⟨z,ou,ba,rfl,h1,h2,h3,hb5⟩; have HX5 := hid (HX.out.later hb5); have HB5 := hid (HB.out.trans (hb5.mono HB.out.size)); have HR5 := hid (Z0a HRW.out hb5); have HZ5 := hid (HZ.out.next h1 h2 h3); have q0 := HR5.out.cell hlt; have q1 := HR5.out.frozen k; unfold zRow at q0; have HX6 : Hid (XBox w (w5.setCell ⟨G,k,none⟩ (.int .u64 (z : Int))) w.heap.size A x) := hid ⟨HX5.out.below.setCell (p := ⟨G,k,none⟩) (by have := HGX.out; show w.heap.size ≤ G; omega) _,HX5.out.ge,(heap_setCell_other _ _ _ _ (by have := HGX.out; show w.heap.size ≠ G; omega)).trans HX5.out.blk⟩
   have HB6 : Hid (Below w2.heap.size w2 (w5.setCell ⟨G,k,none⟩ (.int .u64 (z : Int)))) := hid (HB5.out.setCell (p := ⟨G,k,none⟩) HGB.out _); have HR6 : Hid ((w5.setCell ⟨G,k,none⟩ (.int .u64 (z : Int))).rowIs G 42 x.sats.length (zRow (setZ zf k z) (k + 1))) := hid ((HR5.out.set k _).congr fun j _ => Zj4); clear h1 h2 h3 hb5; go_wp2_with fail
   go_roundw
   case rel => exact ⟨k + 1,_,by go_num,by omega,HX6,HB6,HR6,HZ5⟩
   case measure => simp [intOf]; omega
  ·obtain rfl : k = x.sats.length := by omega
   go_wp2_with fail
   go_ret
   refine ⟨(List.range x.sats.length).map zf,some ⟨G,0,none⟩,x.sats.length,by simp,?_,Zg5 HM.out HRD.out HZ.out,HX.out.below⟩
   have h := Zlr (zf := zf) (HRW.out.congr (fun j hj => by unfold zRow; rw [if_pos hj])) (fun j hj => by obtain ⟨_,_,_,_,h3⟩ := HZ.out j hj; exact h3.1)
   simpa using h
theorem Z3w : ReachSpec where
 ready A x w hi hm := Zaz A x w hi hm
 out A x _ w hi hm hs := Ziw A x w hi hm hs
 back A x _ w hi hm hs := Ze0 A x w hi hm hs
 mays A x w hi hm := Zj5 A x w hi hm
 readyNo A x w hi h1 h2 h3 := Z6i A x w hi h1 h2 h3
 outNo A x s w hi h1 h2 _ h4 := Ziv A x s w hi h1 h2 h4
 backNo A x s w hi h1 h2 _ h4 := Zfz A x s w hi h1 h2 h4
 maysNo A x w hi h1 h2 h3 := Zg4 A x w hi h1 h2 h3
end Go.Proofs.YtfkommjlmolniaaGreatDoor
end
