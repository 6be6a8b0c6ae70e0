/- Joined: BShort. -/
import Derived.Test.YtfkommjlmolniaaGreatDoorHsBCounts
import Derived.Deep.QuietTactic
import Derived.BigQuiet
set_option linter.unusedVariables false
section

namespace Go.Proofs.YtfkommjlmolniaaGreatDoor
set_option maxHeartbeats 16000000
set_option maxRecDepth 100000
open Go.Lib (hid)
open Go.RowKit
variable {w wr w2 : World} {A : InA} {x : Ins} {C c z y s k : Nat} {f : Nat → Int} {P : Nat → Bool}
theorem Zbm : Z0k (c + 1) P z = (Z0k c P z || (P c && z.testBit c)) := by
 unfold Z0k; rw [List.range_succ,List.any_append]; simp
def Z2d (x : Ins) (p : Nat → Nat → Bool) (r : Nat → Int) (z k : Nat) : Int := sumD (fun s => if Z0k x.cus.length (p s) z = true then r s else 0) k
theorem Z4n {p : Nat → Nat → Bool} {r : Nat → Int} (h : Z0k x.cus.length (p k) z = true) : Z2d x p r z (k + 1) = Z2d x p r z k + r k := by unfold Z2d; rw [sumD,if_pos h]
theorem Z5t {p : Nat → Nat → Bool} {r : Nat → Int} (h : ¬ Z0k x.cus.length (p k) z = true) : Z2d x p r z (k + 1) = Z2d x p r z k := by unfold Z2d; rw [sumD,if_neg h]; omega
theorem Z9h {p : Nat → Nat → Bool} {r : Nat → Int} {S : Nat} {m : Int} (hm : 0 ≤ m) (hr : ∀ s,s < S → 0 ≤ r s ∧ r s ≤ m) (hk : k ≤ S) : 0 ≤ Z2d x p r z k ∧ Z2d x p r z k ≤ (k : Int) * m := by
 induction k with
 | zero => exact ⟨Int.le_refl _,by simp [Z2d,sumD]⟩
 | succ k ih =>
  have h := ih (by omega)
  have h2 := hr k (by omega)
  have e2 : ((k + 1 : Nat) : Int) * m = (k : Int) * m + m := by rw [Int.natCast_add]; simp [Int.add_mul]
  by_cases e : Z0k x.cus.length (p k) z = true
  ·rw [Z4n e]; omega
  ·rw [Z5t e]; omega
theorem Zes (A : InA) (x : Ins) (w : World) (hi : IsIns w.heap.size w A x) (hm : May x) (hC : x.cus.length ≤ 6) {B mb mc cb co cc : Nat} {p : Nat → Nat → Bool} {l : List Int} (hB : BRs B w (.slice (some ⟨mb,0,none⟩) x.sats.length mc) x.sats.length x.cus.length p)
  (hl : l.length = x.sats.length) (hl2 : ∀ s,s < x.sats.length → 0 ≤ l.getD s 0 ∧ l.getD s 0 ≤ 64) (hcb : cb < w.heap.size) (hcn : ∀ (s : Nat) (v : Int),l[s]? = some v → w.cell? ⟨cb,co + s,none⟩ = some (.int .i64 v)) (z : Nat) (hz : z < 64) :
  Calls Tryz.prog 24 #[.agg (insC A x),.slice (some ⟨mb,0,none⟩) x.sats.length mc,.slice (some ⟨cb,co,none⟩) x.sats.length cc,.int .i64 (z : Int)] w fun e w' => e = .returned (.tuple #[.int .i64 (Z17 x p z),.int .i64 (Z1q x p l z)]) ∧ Below w.heap.size w w' := by
 have HX := hid (XBox.make (Below.refl _ w) A x); have hns1 := hm.ns.1; have hns2 := hm.ns.2; have hnc1 := hm.nc.1; have HLD := hid hm.loads; have HRM := hid hm.rooms; have HBR := hid hB; have HL := hid hl; have HL2 := hid hl2; have HCB := hid hcb; have HCN := hid hcn; obtain ⟨b1,o1,hsa,hb1,hpa⟩ : ∃ b off,A.sa = some ⟨b,off,none⟩ ∧ b < w.heap.size ∧ PairRow w b off x.sats := by
  rcases hi.sats.2 with h | h
  ·omega
  ·exact h
 obtain ⟨b2,o2,hca,hb2,hpr⟩ : ∃ b off,A.ca = some ⟨b,off,none⟩ ∧ b < w.heap.size ∧ PiRow w b off x.cus := by
  rcases hi.cus.2 with h | h
  ·omega
  ·exact h
 have HSA := hid hsa; have HCA := hid hca; have HPA := hid hpa; have HPR := hid hpr; have HB1 := hid hb1; have HB2 := hid hb2; have c6 := HX.out.cells.2.2.2.2.2.2.1; rw [HCA.out] at c6; clear hi hm hB hl hl2 hcb hcn hsa hca hpa hpr hb1 hb2; unfold insC at *; go_enter Tryz.func24,Tryz.ntmps24
 go_wp2_with fail
 obtain ⟨W0,hW0⟩ : ∃ W0,w.alloc (.cells (insC A x) 34) = W0 := ⟨_,rfl⟩; unfold insC at hW0; rw [hW0] at HX ⊢; clear hW0 c6; have HXX : Hid (XBox w W0 w.heap.size A x) := HX; clear HX; have HBW0 : Hid (Below W0.heap.size W0 W0) := hid (Below.refl _ _); go_loopw [8,9,20] (fun lv nv iv wr => ∃ c : Nat,lv = .int .i64 (sumZ c (ldI x) z) ∧ nv = .int .i64 (sizeZ c z) ∧ iv = .int .i64 (c : Int) ∧ c ≤ x.cus.length ∧ Hid (Below W0.heap.size W0 wr)) (fun _ _ iv _ => x.cus.length - (intOf iv).toNat)
 case atStart => exact ⟨0,rfl,rfl,rfl,Nat.zero_le _,HBW0⟩
 case round =>
  obtain ⟨c,rfl,rfl,rfl,hc,HBW⟩ := hrel; clear HBW0; have hsz := Z5d (c := c) (z := z); have hsm := Zgh (f := ldI x) (C := x.cus.length) (c := c) (z := z) (fun i hi => ⟨by have := HLD.out i hi; omega,(HLD.out i hi).2⟩) hc
  by_cases hct : c < x.cus.length
  ·obtain ⟨y,hy⟩ : ∃ y,x.cus[c]? = some y := ⟨_,List.getElem?_eq_getElem hct⟩
   obtain ⟨p0,p1,p2,p3⟩ := HPR.out.of_block ((HXX.out.later HBW.out).below.block b2 HB2.out) c _ hy; have hld : ldI x c = y.1 := by unfold ldI; rw [List.getD,hy,Option.getD_some]
   have hlin := HLD.out c hct; rw [hld] at hlin; obtain ⟨ld,op,cl,st⟩ := y; simp only at p0 p1 p2 p3 hld hlin
   have HBN := hid (HBW.out.alloc HBW.out.size (.cells #[.int .i64 ld,.int .i64 op,.int .i64 cl,.int .i64 st] 53)); by_cases hb : z.testBit c = true
   ·have v1 := Z84 hz (by omega) hb
    have HS1 := hid (Z85 (f := ldI x) hb); have HS2 := hid (Z5o hb); rw [hld] at HS1; clear hb hy hld; generalize sumZ c (ldI x) z = sm at *; generalize sizeZ c z = sz at *; go_wp2_with fail
    go_roundw
    case rel => exact ⟨c + 1,by rw [HS1.out],by rw [HS2.out],by go_num,by omega,HBN⟩
    case measure => simp [intOf]; omega
   ·have v1 := Zbe hz (by omega) hb
    have HS1 := hid (Z86 (f := ldI x) hb); have HS2 := hid (Z5c hb); clear hb hy hld; go_wp2_with fail
    go_roundw
    case rel => exact ⟨c + 1,by rw [HS1.out],by rw [HS2.out],by go_num,by omega,HBN⟩
    case measure => simp [intOf]; omega
  ·obtain rfl : c = x.cus.length := by omega
   obtain ⟨sm,hsme⟩ : ∃ m,sumZ x.cus.length (ldI x) z = m := ⟨_,rfl⟩; obtain ⟨sz,hsze⟩ : ∃ m,sizeZ x.cus.length z = m := ⟨_,rfl⟩; have HSM := hid hsme; have HSZ := hid hsze; rw [hsme] at hsm ⊢; rw [hsze] at hsz ⊢; clear hsme hsze; go_wp2_with fail
   go_loopw [8,9,39] (fun lv nv iv wr => ∃ s : Nat,lv = .int .i64 (sm - Z2d x p (roomI x) z s) ∧ nv = .int .i64 (sz - Z2d x p (fun s => l.getD s 0) z s) ∧ iv = .int .i64 (s : Int) ∧ s ≤ x.sats.length ∧ Hid (Below W0.heap.size W0 wr)) (fun _ _ iv _ => x.sats.length - (intOf iv).toNat)
   case atStart => exact ⟨0,by simp [Z2d,sumD],by simp [Z2d,sumD],rfl,Nat.zero_le _,HBW⟩
   case round =>
    obtain ⟨s,rfl,rfl,rfl,hs,HB⟩ := hrel; clear HBW; have hp1 := Z9h (x := x) (p := p) (z := z) (m := 1000000000) (by decide) (fun i hi => HRM.out i hi) hs
    have hp2 := Z9h (x := x) (p := p) (r := fun s => l.getD s 0) (z := z) (m := 64) (by decide) (fun i hi => HL2.out i hi) hs
    obtain ⟨q1,hq1⟩ : ∃ m,Z2d x p (roomI x) z s = m := ⟨_,rfl⟩; obtain ⟨q2,hq2⟩ : ∃ m,Z2d x p (fun s => l.getD s 0) z s = m := ⟨_,rfl⟩; have HQ1 := hid hq1; have HQ2 := hid hq2; rw [hq1] at hp1 ⊢; rw [hq2] at hp2 ⊢; clear hq1 hq2; by_cases hst : s < x.sats.length
    ·have HBB : Hid (Below w.heap.size w wr) := hid (HXX.out.later HB.out).below
     obtain ⟨mb2,e1,hmb,ra,rc,m0,hbo⟩ := (HBR.out.later HBB.out).at_ hst; injection e1 with e1
     injection e1 with e1
     subst e1; obtain ⟨rb,ro,hra,hrb,hrc⟩ : ∃ b off,ra = some ⟨b,off,none⟩ ∧ b < wr.heap.size ∧ ∀ j,j < x.cus.length → wr.cell? ⟨b,off + j,none⟩ = some (.bool (p s j)) := by
      rcases hbo with h | h
      ·omega
      ·exact h
     subst hra; have HRC := hid hrc; clear hrc hbo hmb hrb; go_wp2_with fail
     go_loop [14,46] (fun ov iv => ∃ c : Nat,ov = .bool (Z0k c (p s) z) ∧ iv = .int .i64 (c : Int) ∧ c ≤ x.cus.length) (fun _ iv => x.cus.length - (intOf iv).toNat)
     case atStart => exact ⟨0,rfl,rfl,Nat.zero_le _⟩
     case round =>
      obtain ⟨c,rfl,rfl,hc⟩ := hrel; by_cases hct : c < x.cus.length
      ·have q0 := HRC.out c hct
       have HTS := hid (Zbm (c := c) (P := p s) (z := z)); cases ht : Z0k c (p s) z with
       | true =>
        rw [ht] at HTS; generalize p s c = pc at *; clear ht; go_wp2_with fail
        go_round
        case rel => exact ⟨c + 1,by rw [HTS.out]; rfl,by go_num,by omega⟩
        case measure => simp [intOf]; omega
       | false =>
        rw [ht] at HTS; clear ht; cases hpc : p s c with
        | false =>
         rw [hpc] at HTS q0; clear hpc; go_wp2_with fail
         go_round
         case rel => exact ⟨c + 1,by rw [HTS.out]; rfl,by go_num,by omega⟩
         case measure => simp [intOf]; omega
        | true =>
         rw [hpc] at HTS q0; clear hpc; by_cases hb : z.testBit c = true
         ·have v1 := Z84 hz (by omega) hb
          rw [hb] at HTS; clear hb; go_wp2_with fail
          go_round
          case rel => exact ⟨c + 1,by rw [HTS.out]; rfl,by go_num,by omega⟩
          case measure => simp [intOf]; omega
         ·have v1 := Zbe hz (by omega) hb
          have hbf : z.testBit c = false := by simpa using hb
          rw [hbf] at HTS; clear hb hbf; go_wp2_with fail
          go_round
          case rel => exact ⟨c + 1,by rw [HTS.out]; rfl,by go_num,by omega⟩
          case measure => simp [intOf]; omega
      ·obtain rfl : c = x.cus.length := by omega
       cases ht : Z0k x.cus.length (p s) z with
       | false =>
        have HN1 := hid (Z5t (r := roomI x) (show ¬ Z0k x.cus.length (p s) z = true by rw [ht]; decide))
        have HN2 := hid (Z5t (r := fun s => l.getD s 0) (show ¬ Z0k x.cus.length (p s) z = true by rw [ht]; decide))
        clear ht; go_wp2_with fail
        go_roundw
        case rel => exact ⟨s + 1,by rw [HN1.out,HQ1.out],by rw [HN2.out,HQ2.out],by go_num,by omega,HB⟩
        case measure => simp [intOf]; omega
       | true =>
        have HN1 := hid (Z4n (r := roomI x) ht); have HN2 := hid (Z4n (r := fun s => l.getD s 0) ht); have hrin := HRM.out s hst; have hlin := HL2.out s hst; obtain ⟨y,hy⟩ : ∃ y,x.sats[s]? = some y := ⟨_,List.getElem?_eq_getElem hst⟩; obtain ⟨v,hv⟩ : ∃ v,l[s]? = some v := ⟨_,List.getElem?_eq_getElem (by have := HL.out; omega)⟩
        have hrv : roomI x s = y.1 := by unfold roomI; rw [List.getD,hy,Option.getD_some]
        have hlv : l.getD s 0 = v := by rw [List.getD,hv,Option.getD_some]
        have p0 := (HPA.out.of_block (HBB.out.block b1 HB1.out) s _ hy).1; have p1 := (HBB.out.cell (p := ⟨cb,co + s,none⟩) HCB.out).trans (HCN.out s v hv); rw [hrv] at hrin HN1; rw [hlv] at hlin HN2; obtain ⟨ro1,ho1⟩ := y; simp only at p0 hrin HN1
        obtain ⟨-,-,-,-,-,c5,-,-,-⟩ := (HXX.out.later HB.out).cells; rw [HSA.out] at c5; clear ht hy hv hrv hlv; go_wp2_with fail
        go_quiet (fail)
        have HBQ := hid (HB.out.trans ((Z03 (Below.refl _ _) nq).mono HB.out.size)); go_wp2_with fail
        go_roundw
        case rel => exact ⟨s + 1,by rw [HN1.out,HQ1.out,show sm - (q1 + ro1) = sm - q1 - ro1 by omega],by rw [HN2.out,HQ2.out,show sz - (q2 + v) = sz - q2 - v by omega],by go_num,by omega,HBQ⟩
        case measure => simp [intOf]; omega
    ·obtain rfl : s = x.sats.length := by omega
     go_wp2_with fail
     go_ret2
     refine ⟨?_,HXX.out.below.trans (HB.out.mono HXX.out.below.size)⟩; rw [← HQ1.out,← HQ2.out,← HSM.out,← HSZ.out]; rfl
end Go.Proofs.YtfkommjlmolniaaGreatDoor
end
