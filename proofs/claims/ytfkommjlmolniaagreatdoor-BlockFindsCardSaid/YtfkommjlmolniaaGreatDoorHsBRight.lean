/- Joined: BRight. -/
import Derived.Test.YtfkommjlmolniaaGreatDoorHsBShort
import Derived.Test.YtfkommjlmolniaaGreatDoorHd3
import Derived.Maps.RangeWalk
import Derived.Test.YtfkommjlmolniaaGreatDoorHd6
set_option linter.unusedVariables false
section

namespace Go.Proofs.YtfkommjlmolniaaGreatDoor
set_option maxHeartbeats 16000000
set_option maxRecDepth 100000
open Go.Lib (hid)
open Go.RowKit
variable {w wr w2 : World} {A : InA} {x : Ins} {C c z y s k who : Nat} {f : Nat → Int} {P : Nat → Bool} {p : Nat → Nat → Bool}
def Z1v (x : Ins) (p : Nat → Nat → Bool) (k who : Nat) : Prop := (k = 1 ∧ x.br < ldI x who) ∨ (k = 2 ∧ ∀ s,s < x.sats.length → p s who = false) ∨ (k = 3 ∧ x.tm * x.tr < Z27 x) ∨ (k = 4 ∧ x.bm * x.br < Z27 x)
def Z2p (p : Nat → Nat → Bool) (who k : Nat) : Bool := (List.range k).any (fun s => p s who)
theorem Z5s : Z2p p who (k + 1) = (Z2p p who k || p k who) := by
 unfold Z2p; rw [List.range_succ,List.any_append]; simp
theorem Z4z : Z2p p who k = false ↔ ∀ s,s < k → p s who = false := by
 unfold Z2p; rw [List.any_eq_false]; constructor
 ·intro h s hs
  have := h s (List.mem_range.2 hs); simpa using this
 ·intro h s hs
  simp [h s (List.mem_range.1 hs)]
theorem Z9e {a b : Int} (ha : 0 ≤ a ∧ a ≤ 60) (hb : 0 ≤ b ∧ b ≤ 1000000000) : 0 ≤ a * b ∧ a * b ≤ 60000000000 := by
 have h1 := Int.mul_nonneg ha.1 hb.1; have h2 : a * b ≤ 60 * b := Int.mul_le_mul_of_nonneg_right ha.2 hb.1; omega
theorem Zcu {f : Nat → Int} {C : Nat} (hf : ∀ i,i < C → 0 ≤ f i ∧ f i ≤ 1000000000) (hc : c ≤ C) (hC : C ≤ 6) : 0 ≤ sumD f c ∧ sumD f c ≤ 6000000000 := by
 have key : ∀ c,c ≤ C → 0 ≤ sumD f c ∧ sumD f c ≤ (c : Int) * 1000000000 := fun c => by
  induction c with
  | zero => intro _; exact ⟨Int.le_refl _,Int.le_refl _⟩
  | succ c ih =>
   intro h; have h1 := ih (by omega)
   have h2 := hf c (by omega)
   rw [sumD]; omega
 have := key c hc; omega
structure BlkB (w wr : World) (bb : Nat) (k who z : Int) : Prop where
 blk : wr.heap[bb]? = some (.cells #[.int .i64 k,.int .i64 who,.int .u64 z] 44 (0,0))
 ge : w.heap.size ≤ bb
theorem BlkB.later {bb : Nat} {k who z : Int} (h : BlkB w wr bb k who z) (hb : Below wr.heap.size wr w2) : BlkB w w2 bb k who z := ⟨(hb.block bb (Array.getElem?_eq_some_iff.1 h.blk).1).trans h.blk,h.ge⟩
theorem BlkB.cells {bb : Nat} {k who z : Int} (h : BlkB w wr bb k who z) : wr.cell? ⟨bb,0,none⟩ = some (.int .i64 k) ∧ wr.cell? ⟨bb,1,none⟩ = some (.int .i64 who) ∧ wr.cell? ⟨bb,2,none⟩ = some (.int .u64 z) := by
 simp [World.cell?,h.blk]
def Znt (x : Ins) (k who : Nat) (w : World) (e : Ending) (w' : World) : Prop := ∃ (b : Bool) (p : Nat → Nat → Bool),e = .returned (.bool b) ∧ MayOf x p ∧ (b = true ↔ Z1v x p k who) ∧ Below w.heap.size w w'
theorem Zep (A : InA) (x : Ins) (w : World) (hi : IsIns w.heap.size w A x) (hm : May x) (hC : x.cus.length ≤ 6) (hk : ((k = 1 ∨ k = 2) ∧ who < x.cus.length) ∨ ((k = 3 ∨ k = 4) ∧ who = 0)) :
  Calls Tryz.prog 23 #[.agg (insC A x),blkC (k : Int) (who : Int) 0] w (Znt x k who w) := by
 have HX := hid (XBox.make (Below.refl _ w) A x); have HI := hid hi; have HM := hid hm; have HMY := hid (fun (W : World) (h : XBox w W w.heap.size A x) => Z6h A x W (h.pipesHere hi) hm); have HCT := hid (fun (W : World) (h : XBox w W w.heap.size A x) => Z3z A x W (h.pipesHere hi) hm hC); have hnc1 := hm.nc.1; have hns1 := hm.ns.1; have hns2 := hm.ns.2; have HLD := hid hm.loads; have hwc : who < x.cus.length := by omega
 have HBB : Hid (BlkB w ((w.alloc (.cells (insC A x) 34)).alloc (.cells #[.int .i64 (k : Int),.int .i64 (who : Int),.int .u64 0] 44)) (w.heap.size + 1) (k : Int) (who : Int) 0) := hid ⟨heap_alloc2_new _ _ _,by omega⟩
 have HXX := hid (HX.out.later ((Below.refl _ _).alloc (Nat.le_refl _) (.cells #[.int .i64 (k : Int),.int .i64 (who : Int),.int .u64 0] 44)).drew); have HBD := hid (HBB.out.later (Below.refl _ _).drew); have HKK := hid hk; clear hi hm hk HX HBB; unfold insC at *; go_enter Tryz.func23,Tryz.ntmps23
 go_wp2_with fail
 refine wp_region_held_drew (S := fun Wz => XBox w Wz w.heap.size A x ∧ BlkB w Wz (w.heap.size + 1) (k : Int) (who : Int) 0) (by kernel_rfl) ⟨HXX.out,HBD.out⟩ (fun hHeld => ?_)
 refine stpT 0 hHeld ?_ (y := fun Wz hWz => by obtain ⟨c0,c1,c2,c3,c4,c5,c6,c7,c8⟩ := XBox.cells hWz.1; go_simp; (try with_reducible rfl))
 try go_frame
 refine stpT 2 hHeld ?_ (y := fun Wz hWz => by obtain ⟨c0,c1,c2,c3,c4,c5,c6,c7,c8⟩ := XBox.cells hWz.1; go_simp; (try with_reducible rfl))
 try go_frame
 refine stpR 1 (fun K hK => ?_); go_simp; refine (HMY.out _ hHeld.1).mono ?_; rintro e w3 ⟨v,p,rfl,⟨B,hB⟩,hp,hb3⟩; obtain ⟨ma,mc,hv⟩ := hB.shape; subst hv; have hd3 : XBox w w3 w.heap.size A x ∧ BlkB w w3 (w.heap.size + 1) (k : Int) (who : Int) 0 := ⟨hHeld.1.later hb3,hHeld.2.later hb3⟩; have HBR := hid hB; have HP := hid hp; clear hb3 hB hp; refine hK.out _ _ ?_ (fun hHeld => ?_)
 ·exact hd3
 clear hK K; try go_frame
 refine stpR 3 (fun K hK => ?_); go_simp; refine (HCT.out _ hHeld.1).mono ?_; rintro e w4 ⟨cl,ca,cc,rfl,_,_,hb4⟩; have hd4 : XBox w w4 w.heap.size A x ∧ BlkB w w4 (w.heap.size + 1) (k : Int) (who : Int) 0 := ⟨hHeld.1.later hb4,hHeld.2.later hb4⟩; have HBR4 := hid (HBR.out.later hb4); clear hb4; refine hK.out _ _ ?_ (fun hHeld => ?_)
 ·exact hd4
 clear hK K; try go_frame
 refine stpT 4 hHeld ?_ (y := fun Wz hWz => by obtain ⟨c0,c1,c2,c3,c4,c5,c6,c7,c8⟩ := XBox.cells hWz.1; go_simp; (try with_reducible rfl))
 try go_frame
 refine stpT 5 hHeld ?_ (y := fun Wz hWz => by obtain ⟨c0,c1,c2,c3,c4,c5,c6,c7,c8⟩ := XBox.cells hWz.1; go_simp; (try with_reducible rfl))
 try go_frame
 refine wpAnyH_done (by kernel_rfl) ?_ _
 have HX4 := hid hd4.1; have HB4 := hid hd4.2; clear hHeld hd4 hd3 HBR HXX HBD HMY HCT; obtain ⟨b2,o2,hca,hb2,hpr⟩ : ∃ b off,A.ca = some ⟨b,off,none⟩ ∧ b < w.heap.size ∧ PiRow w b off x.cus := by
  rcases HI.out.cus.2 with h | h
  ·omega
  ·exact h
 have HCA := hid hca; have HPR := hid hpr; have HB2 := hid hb2; obtain ⟨c0,c1,c2,c3,c4,c5,c6,c7,c8⟩ := HX4.out.cells; obtain ⟨k0,k1,k2⟩ := HB4.out.cells; rw [hca] at c6; clear hca hpr hb2; have HT0 : Hid (Below w4.heap.size w4 w4) := hid (Below.refl _ _); go_wp2_with fail
 
 ·obtain rfl : who = 0 := by omega
  clear c0 c1 c2 c3 c4 c5 c6 c7 c8 k0 k1 k2; go_loopw [10,54] (fun sv iv wr => ∃ c : Nat,sv = .int .i64 (sumD (ldI x) c) ∧ iv = .int .i64 (c : Int) ∧ c ≤ x.cus.length ∧ Hid (Below w4.heap.size w4 wr)) (fun _ iv _ => x.cus.length - (intOf iv).toNat)
  case atStart => exact ⟨0,rfl,rfl,Nat.zero_le _,HT0⟩
  case round =>
   obtain ⟨c,rfl,rfl,hc,HBW⟩ := hrel; clear HT0; have hsm : 0 ≤ sumD (ldI x) c ∧ sumD (ldI x) c ≤ 6000000000 := Zcu (fun i hi => ⟨by have := HLD.out i hi; omega,(HLD.out i hi).2⟩) hc hC
   by_cases hct : c < x.cus.length
   ·obtain ⟨y,hy⟩ : ∃ y,x.cus[c]? = some y := ⟨_,List.getElem?_eq_getElem hct⟩
    obtain ⟨p0,p1,p2,p3⟩ := HPR.out.of_block ((HX4.out.later HBW.out).below.block b2 HB2.out) c _ hy; have hld : ldI x c = y.1 := by unfold ldI; rw [List.getD,hy,Option.getD_some]
    have hlin := HLD.out c hct; rw [hld] at hlin; obtain ⟨ld,op,cl_,st⟩ := y; simp only at p0 p1 p2 p3 hld hlin
    have HBN := hid (HBW.out.alloc HBW.out.size (.cells #[.int .i64 ld,.int .i64 op,.int .i64 cl_,.int .i64 st] 53)); have HS1 : Hid (sumD (ldI x) (c + 1) = sumD (ldI x) c + ld) := hid (by rw [sumD,hld])
    clear hy hld; generalize sumD (ldI x) c = sm at *; go_wp2_with fail
    go_roundw
    case rel => exact ⟨c + 1,by rw [HS1.out],by go_num,by omega,HBN⟩
    case measure => simp [intOf]; omega
   ·obtain rfl : c = x.cus.length := by omega
    obtain ⟨tot,htot⟩ : ∃ m,sumD (ldI x) x.cus.length = m := ⟨_,rfl⟩; have HTT : Hid (Z27 x = tot) := hid htot; rw [htot] at hsm ⊢; have HXR := hid (HX4.out.later HBW.out); have HBX := hid (HB4.out.later HBW.out); obtain ⟨c0,c1,c2,c3,c4,c5,c6,c7,c8⟩ := HXR.out.cells; obtain ⟨k0,k1,k2⟩ := HBX.out.cells; have HBF := hid HXR.out.below; clear htot; have hkk := HKK.out; obtain rfl | rfl | rfl | rfl : k = 1 ∨ k = 2 ∨ k = 3 ∨ k = 4 := by omega
    ·rw [HCA.out] at c6
     obtain ⟨y,hy⟩ : ∃ y,x.cus[0]? = some y := ⟨_,List.getElem?_eq_getElem hwc⟩; have q0 := (HPR.out.of_block (HBF.out.block b2 HB2.out) 0 _ hy).1; have hld : ldI x 0 = y.1 := by unfold ldI; rw [List.getD,hy,Option.getD_some]
     obtain ⟨ld,op,cl_,st⟩ := y; simp only at q0 hld
     try simp only [Nat.zero_mul,Nat.add_zero] at q0
     have HRB : Hid (x.br < ld ↔ Z1v x p 1 0) := hid (by unfold Z1v; rw [hld]; omega)
     by_cases hb : x.br < ld
     ·have hd : decide (x.br < ld) = true := decide_eq_true hb
      have hd2 : decide (ld > x.br) = true := decide_eq_true hb; clear hy hld; go_wp2_with fail
      go_quiet (fail)
      go_wp2_with fail
      go_ret
      exact ⟨true,p,rfl,HP.out,⟨fun _ => HRB.out.1 (by omega),fun _ => rfl⟩,Z03 HBF.out nq⟩
     ·have hd : decide (x.br < ld) = false := decide_eq_false hb
      have hd2 : decide (ld > x.br) = false := decide_eq_false hb; clear hy hld; go_wp2_with fail
      go_quiet (fail)
      go_wp2_with fail
      go_ret
      exact ⟨false,p,rfl,HP.out,⟨(fun h => by cases h),fun h => absurd (HRB.out.2 h) (by omega)⟩,Z03 HBF.out nq⟩
    ·clear c0 c1 c2 c3 c4 c5 c6 c7 c8
     obtain ⟨mb,hma,-,-⟩ := HBR4.out.at_ (s := 0) (by omega)
     subst hma; go_wp2_with fail
     go_loop [13,85] (fun ov iv => ∃ s : Nat,ov = .bool (Z2p p 0 s) ∧ iv = .int .i64 (s : Int) ∧ s ≤ x.sats.length) (fun _ iv => x.sats.length - (intOf iv).toNat)
     case atStart => exact ⟨0,rfl,rfl,Nat.zero_le _⟩
     case round =>
      obtain ⟨s,rfl,rfl,hs⟩ := hrel; by_cases hst : s < x.sats.length
      ·obtain ⟨mb2,e1,hmb,ra,rc,m0,hbo⟩ := (HBR4.out.later HBW.out).at_ hst
       injection e1 with e1
       injection e1 with e1
       subst e1; obtain ⟨rb,ro,hra,hrb,hrc⟩ : ∃ b off,ra = some ⟨b,off,none⟩ ∧ b < wr.heap.size ∧ ∀ j,j < x.cus.length → wr.cell? ⟨b,off + j,none⟩ = some (.bool (p s j)) := by
        rcases hbo with h | h
        ·omega
        ·exact h
       subst hra; have q0 := hrc 0 hwc; try simp only [Nat.add_zero] at q0
       have HSS := hid (Z5s (p := p) (who := 0) (k := s)); cases hso : Z2p p 0 s with
       | true =>
        rw [hso] at HSS; generalize p s 0 = pw at *; clear hso hrc hbo hmb hrb; go_wp2_with fail
        go_round
        case rel => exact ⟨s + 1,by rw [HSS.out]; rfl,by go_num,by omega⟩
        case measure => simp [intOf]; omega
       | false =>
        rw [hso] at HSS; generalize p s 0 = pw at *; clear hso hrc hbo hmb hrb; go_wp2_with fail
        go_round
        case rel => exact ⟨s + 1,by rw [HSS.out]; rfl,by go_num,by omega⟩
        case measure => simp [intOf]; omega
      ·obtain rfl : s = x.sats.length := by omega
       have HRB : Hid (Z2p p 0 x.sats.length = false ↔ Z1v x p 2 0) := hid (by unfold Z1v; rw [Z4z]; constructor; (· intro h; exact .inr (.inl ⟨rfl,h⟩)); (· rintro (h | h | h | h) <;> first | exact h.2 | omega))
       cases hso : Z2p p 0 x.sats.length with
       | true =>
        have HSO := hid hso; clear hso; go_wp2_with fail
        go_ret
        exact ⟨false,p,rfl,HP.out,⟨(fun h => by cases h),(fun h => by have h2 := HRB.out.2 h; rw [HSO.out] at h2; cases h2)⟩,HBF.out⟩
       | false =>
        have HSO := hid hso; clear hso; go_wp2_with fail
        go_ret
        exact ⟨true,p,rfl,HP.out,⟨fun _ => HRB.out.1 HSO.out,fun _ => rfl⟩,HBF.out⟩
    ·skip
     have hm1 := Z9e (a := x.tm) (b := x.tr) ⟨by have := HM.out.tm; omega,HM.out.tm.2⟩ HM.out.tr
     have HRB : Hid (x.tm * x.tr < tot ↔ Z1v x p 3 0) := hid (by unfold Z1v; rw [HTT.out]; omega)
     obtain ⟨ml,hml⟩ : ∃ m,x.tm * x.tr = m := ⟨_,rfl⟩; have hmw : IntKind.i64.wrap ml = ml := by rw [IntKind.wrap_i64]; omega
     have hmw2 : wrap64 ml = ml := by unfold wrap64; omega
     rw [hml] at hm1 HRB; by_cases hb : ml < tot
     ·have hd : decide (ml < tot) = true := decide_eq_true hb
      go_wp2_with fail
      go_ret
      exact ⟨true,p,rfl,HP.out,⟨fun _ => HRB.out.1 (by omega),fun _ => rfl⟩,HBF.out⟩
     ·have hd : decide (ml < tot) = false := decide_eq_false hb
      go_wp2_with fail
      go_ret
      exact ⟨false,p,rfl,HP.out,⟨(fun h => by cases h),fun h => absurd (HRB.out.2 h) (by omega)⟩,HBF.out⟩
    ·skip
     have hm1 := Z9e (a := x.bm) (b := x.br) ⟨by have := HM.out.bm; omega,HM.out.bm.2⟩ HM.out.br
     have HRB : Hid (x.bm * x.br < tot ↔ Z1v x p 4 0) := hid (by unfold Z1v; rw [HTT.out]; omega)
     obtain ⟨ml,hml⟩ : ∃ m,x.bm * x.br = m := ⟨_,rfl⟩; have hmw : IntKind.i64.wrap ml = ml := by rw [IntKind.wrap_i64]; omega
     have hmw2 : wrap64 ml = ml := by unfold wrap64; omega
     rw [hml] at hm1 HRB; by_cases hb : ml < tot
     ·have hd : decide (ml < tot) = true := decide_eq_true hb
      go_wp2_with fail
      go_ret
      exact ⟨true,p,rfl,HP.out,⟨fun _ => HRB.out.1 (by omega),fun _ => rfl⟩,HBF.out⟩
     ·have hd : decide (ml < tot) = false := decide_eq_false hb
      go_wp2_with fail
      go_ret
      exact ⟨false,p,rfl,HP.out,⟨(fun h => by cases h),fun h => absurd (HRB.out.2 h) (by omega)⟩,HBF.out⟩
 ·skip
  clear c0 c1 c2 c3 c4 c5 c6 c7 c8 k0 k1 k2; go_loopw [10,54] (fun sv iv wr => ∃ c : Nat,sv = .int .i64 (sumD (ldI x) c) ∧ iv = .int .i64 (c : Int) ∧ c ≤ x.cus.length ∧ Hid (Below w4.heap.size w4 wr)) (fun _ iv _ => x.cus.length - (intOf iv).toNat)
  case atStart => exact ⟨0,rfl,rfl,Nat.zero_le _,HT0⟩
  case round =>
   obtain ⟨c,rfl,rfl,hc,HBW⟩ := hrel; clear HT0; have hsm : 0 ≤ sumD (ldI x) c ∧ sumD (ldI x) c ≤ 6000000000 := Zcu (fun i hi => ⟨by have := HLD.out i hi; omega,(HLD.out i hi).2⟩) hc hC
   by_cases hct : c < x.cus.length
   ·obtain ⟨y,hy⟩ : ∃ y,x.cus[c]? = some y := ⟨_,List.getElem?_eq_getElem hct⟩
    obtain ⟨p0,p1,p2,p3⟩ := HPR.out.of_block ((HX4.out.later HBW.out).below.block b2 HB2.out) c _ hy; have hld : ldI x c = y.1 := by unfold ldI; rw [List.getD,hy,Option.getD_some]
    have hlin := HLD.out c hct; rw [hld] at hlin; obtain ⟨ld,op,cl_,st⟩ := y; simp only at p0 p1 p2 p3 hld hlin
    have HBN := hid (HBW.out.alloc HBW.out.size (.cells #[.int .i64 ld,.int .i64 op,.int .i64 cl_,.int .i64 st] 53)); have HS1 : Hid (sumD (ldI x) (c + 1) = sumD (ldI x) c + ld) := hid (by rw [sumD,hld])
    clear hy hld; generalize sumD (ldI x) c = sm at *; go_wp2_with fail
    go_roundw
    case rel => exact ⟨c + 1,by rw [HS1.out],by go_num,by omega,HBN⟩
    case measure => simp [intOf]; omega
   ·obtain rfl : c = x.cus.length := by omega
    obtain ⟨tot,htot⟩ : ∃ m,sumD (ldI x) x.cus.length = m := ⟨_,rfl⟩; have HTT : Hid (Z27 x = tot) := hid htot; rw [htot] at hsm ⊢; have HXR := hid (HX4.out.later HBW.out); have HBX := hid (HB4.out.later HBW.out); obtain ⟨c0,c1,c2,c3,c4,c5,c6,c7,c8⟩ := HXR.out.cells; obtain ⟨k0,k1,k2⟩ := HBX.out.cells; have HBF := hid HXR.out.below; clear htot; have hkk := HKK.out; obtain rfl | rfl | rfl | rfl : k = 1 ∨ k = 2 ∨ k = 3 ∨ k = 4 := by omega
    ·rw [HCA.out] at c6
     obtain ⟨y,hy⟩ : ∃ y,x.cus[who]? = some y := ⟨_,List.getElem?_eq_getElem hwc⟩; have q0 := (HPR.out.of_block (HBF.out.block b2 HB2.out) who _ hy).1; have hld : ldI x who = y.1 := by unfold ldI; rw [List.getD,hy,Option.getD_some]
     obtain ⟨ld,op,cl_,st⟩ := y; simp only at q0 hld
     try simp only [Nat.zero_mul,Nat.add_zero] at q0
     have HRB : Hid (x.br < ld ↔ Z1v x p 1 who) := hid (by unfold Z1v; rw [hld]; omega)
     by_cases hb : x.br < ld
     ·have hd : decide (x.br < ld) = true := decide_eq_true hb
      have hd2 : decide (ld > x.br) = true := decide_eq_true hb; clear hy hld; go_wp2_with fail
      go_quiet (fail)
      go_wp2_with fail
      go_ret
      exact ⟨true,p,rfl,HP.out,⟨fun _ => HRB.out.1 (by omega),fun _ => rfl⟩,Z03 HBF.out nq⟩
     ·have hd : decide (x.br < ld) = false := decide_eq_false hb
      have hd2 : decide (ld > x.br) = false := decide_eq_false hb; clear hy hld; go_wp2_with fail
      go_quiet (fail)
      go_wp2_with fail
      go_ret
      exact ⟨false,p,rfl,HP.out,⟨(fun h => by cases h),fun h => absurd (HRB.out.2 h) (by omega)⟩,Z03 HBF.out nq⟩
    ·clear c0 c1 c2 c3 c4 c5 c6 c7 c8
     obtain ⟨mb,hma,-,-⟩ := HBR4.out.at_ (s := 0) (by omega)
     subst hma; go_wp2_with fail
     go_loop [13,85] (fun ov iv => ∃ s : Nat,ov = .bool (Z2p p who s) ∧ iv = .int .i64 (s : Int) ∧ s ≤ x.sats.length) (fun _ iv => x.sats.length - (intOf iv).toNat)
     case atStart => exact ⟨0,rfl,rfl,Nat.zero_le _⟩
     case round =>
      obtain ⟨s,rfl,rfl,hs⟩ := hrel; by_cases hst : s < x.sats.length
      ·obtain ⟨mb2,e1,hmb,ra,rc,m0,hbo⟩ := (HBR4.out.later HBW.out).at_ hst
       injection e1 with e1
       injection e1 with e1
       subst e1; obtain ⟨rb,ro,hra,hrb,hrc⟩ : ∃ b off,ra = some ⟨b,off,none⟩ ∧ b < wr.heap.size ∧ ∀ j,j < x.cus.length → wr.cell? ⟨b,off + j,none⟩ = some (.bool (p s j)) := by
        rcases hbo with h | h
        ·omega
        ·exact h
       subst hra; have q0 := hrc who hwc; try simp only [Nat.add_zero] at q0
       have HSS := hid (Z5s (p := p) (who := who) (k := s)); cases hso : Z2p p who s with
       | true =>
        rw [hso] at HSS; generalize p s who = pw at *; clear hso hrc hbo hmb hrb; go_wp2_with fail
        go_round
        case rel => exact ⟨s + 1,by rw [HSS.out]; rfl,by go_num,by omega⟩
        case measure => simp [intOf]; omega
       | false =>
        rw [hso] at HSS; generalize p s who = pw at *; clear hso hrc hbo hmb hrb; go_wp2_with fail
        go_round
        case rel => exact ⟨s + 1,by rw [HSS.out]; rfl,by go_num,by omega⟩
        case measure => simp [intOf]; omega
      ·obtain rfl : s = x.sats.length := by omega
       have HRB : Hid (Z2p p who x.sats.length = false ↔ Z1v x p 2 who) := hid (by unfold Z1v; rw [Z4z]; constructor; (· intro h; exact .inr (.inl ⟨rfl,h⟩)); (· rintro (h | h | h | h) <;> first | exact h.2 | omega))
       cases hso : Z2p p who x.sats.length with
       | true =>
        have HSO := hid hso; clear hso; go_wp2_with fail
        go_ret
        exact ⟨false,p,rfl,HP.out,⟨(fun h => by cases h),(fun h => by have h2 := HRB.out.2 h; rw [HSO.out] at h2; cases h2)⟩,HBF.out⟩
       | false =>
        have HSO := hid hso; clear hso; go_wp2_with fail
        go_ret
        exact ⟨true,p,rfl,HP.out,⟨fun _ => HRB.out.1 HSO.out,fun _ => rfl⟩,HBF.out⟩
    ·exact absurd HKK.out (by omega)
    ·exact absurd HKK.out (by omega)
 
end Go.Proofs.YtfkommjlmolniaaGreatDoor
end
