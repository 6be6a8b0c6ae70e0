/- Joined: BCounts. -/
import Derived.Test.YtfkommjlmolniaaGreatDoorHd2
import Derived.Test.YtfkommjlmolniaaGreatDoorHsRMays
set_option linter.unusedVariables false
section

namespace Go.Proofs.YtfkommjlmolniaaGreatDoor
set_option maxHeartbeats 16000000
set_option maxRecDepth 100000
open Go.Lib (hid)
open Go.RowKit
variable {w wr w2 : World} {A : InA} {x : Ins} {C c z y : Nat} {f : Nat → Int} {P : Nat → Bool} {room best : Int}
theorem Zgg : ∀ z : Nat,z < 64 → ∀ s : Nat,s < 6 → bits BinOp.and IntKind.i64 ((z : Int) / 2 ^ s) 1 = if z.testBit s = true then 1 else 0 := by decide +kernel
theorem Z84 (hz : z < 64) (hs : c < 6) (h : z.testBit c = true) : bits BinOp.and IntKind.i64 ((z : Int) / 2 ^ c) 1 = 1 := by rw [Zgg z hz c hs,if_pos h]
theorem Zbe (hz : z < 64) (hs : c < 6) (h : ¬ z.testBit c = true) : bits BinOp.and IntKind.i64 ((z : Int) / 2 ^ c) 1 = 0 := by rw [Zgg z hz c hs,if_neg h]
theorem Z85 (h : z.testBit c = true) : sumZ (c + 1) f z = sumZ c f z + f c := by unfold sumZ; rw [sumD,if_pos h]
theorem Z86 (h : ¬ z.testBit c = true) : sumZ (c + 1) f z = sumZ c f z := by unfold sumZ; rw [sumD,if_neg h]; omega
theorem Z5o (h : z.testBit c = true) : sizeZ (c + 1) z = sizeZ c z + 1 := by unfold sizeZ; rw [sumD,if_pos h]
theorem Z5c (h : ¬ z.testBit c = true) : sizeZ (c + 1) z = sizeZ c z := by unfold sizeZ; rw [sumD,if_neg h]; omega
theorem Zgh (hf : ∀ i,i < C → 0 ≤ f i ∧ f i ≤ 1000000000) (hc : c ≤ C) : 0 ≤ sumZ c f z ∧ sumZ c f z ≤ (c : Int) * 1000000000 := by
 induction c with
 | zero => exact ⟨Int.le_refl _,Int.le_refl _⟩
 | succ c ih =>
  have h := ih (by omega)
  have hfc := hf c (by omega)
  by_cases e : z.testBit c = true
  ·rw [Z85 e]; omega
  ·rw [Z86 e]; omega
theorem Z5d : 0 ≤ sizeZ c z ∧ sizeZ c z ≤ (c : Int) := by
 induction c with
 | zero => exact ⟨Int.le_refl _,Int.le_refl _⟩
 | succ c ih =>
  by_cases e : z.testBit c = true
  ·rw [Z5o e]; omega
  ·rw [Z5c e]; omega
def subB (c : Nat) (P : Nat → Bool) (z : Nat) : Bool := (List.range c).all (fun i => !z.testBit i || P i)
theorem Zjp (h : z.testBit c = true) : subB (c + 1) P z = (subB c P z && P c) := by
 unfold subB; rw [List.range_succ,List.all_append]; simp [h]
theorem Zmj (h : ¬ z.testBit c = true) : subB (c + 1) P z = subB c P z := by
 unfold subB; rw [List.range_succ,List.all_append]; simp [h]
theorem subB_true : subB c P z = true ↔ SubZ c P z := by
 unfold subB SubZ; rw [List.all_eq_true]; constructor
 ·intro h i hi hz
  have := h i (List.mem_range.2 hi); rw [hz] at this; simpa using this
 ·intro h i hi
  cases e : z.testBit i with
  | false => rfl
  | true => simp [h i (List.mem_range.1 hi) e]
structure BestTo (C : Nat) (P : Nat → Bool) (f : Nat → Int) (room : Int) (z : Nat) (best : Int) : Prop where
 some_ : ∃ y,SubZ C P y ∧ sumZ C f y ≤ room ∧ sizeZ C y = best
 most : ∀ y,y < z → SubZ C P y → sumZ C f y ≤ room → sizeZ C y ≤ best
theorem Z95 : ∀ (C : Nat),sumZ C f 0 = 0
 | 0 => rfl
 | C + 1 => by rw [Z86 (by simp),Z95 C]
theorem Z6w : ∀ (C : Nat),sizeZ C 0 = 0
 | 0 => rfl
 | C + 1 => by rw [Z5c (by simp),Z6w C]
theorem BestTo.begin_ (h : 0 ≤ room) : BestTo C P f room 0 0 := ⟨⟨0,fun c _ hz => by simp at hz,by rw [Z95]; exact h,Z6w C⟩,fun y hy => by omega⟩
theorem BestTo.in_ (h : BestTo C P f room z best) : 0 ≤ best ∧ best ≤ (C : Int) := by
 obtain ⟨y,_,_,e⟩ := h.some_; rw [← e]; exact Z5d
theorem BestTo.no (h : BestTo C P f room z best) (hn : ¬ (SubZ C P z ∧ sumZ C f z ≤ room)) : BestTo C P f room (z + 1) best := ⟨h.some_,fun y hy h1 h2 => by
 by_cases e : y = z
 ·subst e; exact absurd ⟨h1,h2⟩ hn
 ·exact h.most y (by omega) h1 h2⟩
theorem BestTo.yes (h : BestTo C P f room z best) (h1 : SubZ C P z) (h2 : sumZ C f z ≤ room) : BestTo C P f room (z + 1) (max best (sizeZ C z)) := by
 refine ⟨?_,fun y hy a1 a2 => ?_⟩
 ·by_cases e : best ≤ sizeZ C z
  ·exact ⟨z,h1,h2,by omega⟩
  ·obtain ⟨y,b1,b2,b3⟩ := h.some_
   exact ⟨y,b1,b2,by omega⟩
 ·by_cases e : y = z
  ·subst e; omega
  ·have := h.most y (by omega) a1 a2; omega
theorem Zjq : sumZ C f (y % 2 ^ C) = sumZ C f y := Z0f (fun c hc => by rw [Nat.testBit_mod_two_pow]; simp [hc])
theorem Zgi : sizeZ C (y % 2 ^ C) = sizeZ C y := Z0f (fun c hc => by rw [Nat.testBit_mod_two_pow]; simp [hc])
theorem BestTo.done (h : BestTo C P f room (2 ^ C) best) : CountOf C P f room best := ⟨h.some_,fun y h1 h2 => by
 rw [← Zgi]; refine h.most _ (Nat.mod_lt _ (Nat.two_pow_pos _)) (fun c hc hz => h1 c hc ?_) (by rw [Zjq]; exact h2)
 rw [Nat.testBit_mod_two_pow] at hz; simpa [hc] using hz⟩
def CountsTo (x : Ins) (p : Nat → Nat → Bool) (l : List Int) (k : Nat) : Prop := l.length = k ∧ ∀ s,s < k → ∃ n,CountOf x.cus.length (p s) (ldI x) (roomI x s) n ∧ l[s]? = some n
theorem CountsTo.push {p : Nat → Nat → Bool} {l : List Int} {k : Nat} {n : Int} (h : CountsTo x p l k) (hn : CountOf x.cus.length (p k) (ldI x) (roomI x k) n) : CountsTo x p (l ++ [n]) (k + 1) := ⟨by rw [List.length_append,h.1]; rfl,fun s hs => by
 by_cases e : s = k
 ·subst e
  exact ⟨n,hn,by rw [← h.1]; simp⟩
 ·obtain ⟨m,a1,a2⟩ := h.2 s (by omega)
  exact ⟨m,a1,by rw [List.getElem?_append_left (by rw [h.1]; omega)]; exact a2⟩⟩
theorem Zjr : (Tryz.prog.info? 3).map (fun i => (i.zero,i.size,i.bytes)) = some (some (.int .i64 0),1,8) := by kernel_rfl
theorem Zek {B n : Nat} {v : Value} {l : List Int} {T : TypeId} (h : w.ownsRow B T 1 v n (numsV l)) (hn : l.length = n) : ∃ a c,v = .slice a n c ∧ IsNums w.heap.size w a n l := by
 obtain ⟨a,c,e⟩ := Z04 h; subst e; by_cases h0 : 0 < n
 ·obtain ⟨g,cap,e,_,hg,_⟩ := Z0x h h0
  injection e with e1 _ e3
  subst e1; exact ⟨_,_,rfl,hn,.inr ⟨g,0,rfl,hg,fun j u hj => by rw [Nat.zero_add]; exact Z4g h hj⟩⟩
 ·exact ⟨_,_,rfl,hn,.inl (by omega)⟩
theorem Z3z (A : InA) (x : Ins) (w : World) (hi : IsIns w.heap.size w A x) (hm : May x) (hC : x.cus.length ≤ 6) :
  Calls Tryz.prog 11 #[.agg (insC A x)] w fun e w' => ∃ (l : List Int) (a : Option Addr) (c : Nat),e = .returned (.slice a l.length c) ∧ IsNums w'.heap.size w' a l.length l ∧ CountsX x l ∧ Below w.heap.size w w' := by
 obtain ⟨i0,hi0,hz0,hz1,hz2⟩ := info_parts Zjr; have HX := hid (XBox.make (Below.refl _ w) A x); have HI := hid hi; have HM := hid hm; have HMY := hid (fun (W : World) (h : IsIns W.heap.size W A x) => Z6h A x W h hm); have hns1 := hm.ns.1; have hns2 := hm.ns.2; have hnc1 := hm.nc.1; have HLD := hid hm.loads; have HRM := hid hm.rooms; clear hi hm; unfold insC at HX HMY ⊢; go_enter Tryz.func11,Tryz.ntmps11
 go_wp2_with (go_at_call 21; refine (HMY.out _ (HX.out.pipesHere HI.out)).mono ?_; rintro e w2 ⟨v,p,rfl,⟨B,hB⟩,hp,hb2⟩; obtain ⟨ma,mc,hv⟩ := hB.shape; subst hv; have HX2 := hid (HX.out.later hb2); have HBR := hid hB; have HP := hid hp; clear hb2 hB hp)
 obtain ⟨mb,hma,-,-⟩ := HBR.out.at_ (s := 0) (by omega)
 subst hma; obtain ⟨M,hM⟩ : ∃ M : Nat,2 ^ x.cus.length = M := ⟨_,rfl⟩; have hM64 : M ≤ 64 := by rw [← hM]; exact Nat.le_trans (Nat.pow_le_pow_right (by omega) hC) (by decide)
 have hw : wrap64 (2 ^ x.cus.length) = (M : Int) := by
  have h1 : (2 : Int) ^ x.cus.length = ((2 ^ x.cus.length : Nat) : Int) := by simp
  rw [h1,hM]; unfold wrap64; omega
 have HMM := hid hM; have HWW := hid hw; obtain ⟨b1,o1,hsa,hb1,hpa⟩ : ∃ b off,A.sa = some ⟨b,off,none⟩ ∧ b < w.heap.size ∧ PairRow w b off x.sats := by
  rcases HI.out.sats.2 with h | h
  ·omega
  ·exact h
 obtain ⟨b2,o2,hca,hb2,hpr⟩ : ∃ b off,A.ca = some ⟨b,off,none⟩ ∧ b < w.heap.size ∧ PiRow w b off x.cus := by
  rcases HI.out.cus.2 with h | h
  ·omega
  ·exact h
 have HSA := hid hsa; have HCA := hid hca; have HPA := hid hpa; have HPR := hid hpr; have HB1 := hid hb1; have HB2 := hid hb2; have HCT0 : Hid (CountsTo x p [] 0) := hid ⟨rfl,fun s hs => by omega⟩
 have HB0 : Hid (Below w2.heap.size w2 w2) := hid (Below.refl _ _); have HO0 : Hid (w2.ownsRow w2.heap.size 3 1 (.slice none 0 0) 0 (numsV [])) := hid (World.ownsRow_nil _ _ _ 1); clear hM hw hsa hca hpa hpr hb1 hb2 HX HMY; go_loopw [3,16] (fun ov iv wr => ∃ (s : Nat) (l : List Int),iv = .int .i64 (s : Int) ∧ s ≤ x.sats.length ∧ Hid (CountsTo x p l s) ∧ Hid (Below w2.heap.size w2 wr) ∧ Hid (wr.ownsRow w2.heap.size 3 1 ov s (numsV l))) (fun _ iv _ => x.sats.length - (intOf iv).toNat)
 case atStart => exact ⟨0,[],rfl,Nat.zero_le _,HCT0,HB0,HO0⟩
 case round =>
  obtain ⟨s,l,rfl,hs,HCT,HB,HO⟩ := hrel; clear HCT0 HB0 HO0; obtain ⟨oa,oc,rfl⟩ : ∃ oa oc,u3 = .slice oa s oc := Z04 HO.out; by_cases hst : s < x.sats.length
  ·have HXR := hid (HX2.out.later HB.out)
   obtain ⟨mb2,e1,hmb,ra,rc,m0,hbo⟩ := (HBR.out.later HB.out).at_ hst; injection e1 with e1
   injection e1 with e1
   subst e1; obtain ⟨rb,ro,hra,hrb,hrc⟩ : ∃ b off,ra = some ⟨b,off,none⟩ ∧ b < wr.heap.size ∧ ∀ j,j < x.cus.length → wr.cell? ⟨b,off + j,none⟩ = some (.bool (p s j)) := by
    rcases hbo with h | h
    ·omega
    ·exact h
   subst hra; have HRC := hid hrc; obtain ⟨c0,c1,c2,c3,c4,c5,c6,c7,c8⟩ := HXR.out.cells; rw [HSA.out] at c5; rw [HCA.out] at c6; have hy : x.sats[s]? = some x.sats[s] := List.getElem?_eq_getElem hst; obtain ⟨p0,p1⟩ := HPA.out.of_block (HXR.out.below.block b1 HB1.out) s _ hy; have hroom : (x.sats[s]).1 = roomI x s := by unfold roomI; rw [List.getD,hy,Option.getD_some]
   rw [hroom] at p0; have hrin := HRM.out s hst; obtain ⟨rm,hrm⟩ : ∃ r,roomI x s = r := ⟨_,rfl⟩; have HRMM := hid hrm; rw [hrm] at p0 hrin; have HPC := hid (show ∀ c,c < x.cus.length → wr.cell? ⟨b2,o2 + c * 4,none⟩ = some (.int .i64 (ldI x c)) from fun c hc => by
    have hyc : x.cus[c]? = some x.cus[c] := List.getElem?_eq_getElem hc; have h := (HPR.out.of_block (HXR.out.below.block b2 HB2.out) c _ hyc).1; rw [h]; unfold ldI; rw [List.getD,hyc,Option.getD_some])
   have HBT0 : Hid (BestTo x.cus.length (p s) (ldI x) rm 0 0) := hid (BestTo.begin_ hrin.1); clear hrc hbo hmb hrb hy hroom hrm p1; go_wp2_with fail
   rw [HWW.out]; go_loop [6,24] (fun bv zv => ∃ (z : Nat) (best : Int),bv = .int .i64 best ∧ zv = .int .i64 (z : Int) ∧ z ≤ M ∧ Hid (BestTo x.cus.length (p s) (ldI x) rm z best)) (fun _ zv => M - (intOf zv).toNat)
   case atStart => exact ⟨0,0,rfl,rfl,Nat.zero_le _,HBT0⟩
   case round =>
    obtain ⟨z,best,rfl,rfl,hz,HBT⟩ := hrel; clear HBT0; by_cases hzt : z < M
    ·go_wp2_with fail
     go_loop [8,9,10,29] (fun lv nv kv iv => ∃ c : Nat,lv = .int .i64 (sumZ c (ldI x) z) ∧ nv = .int .i64 (sizeZ c z) ∧ kv = .bool (subB c (p s) z) ∧ iv = .int .i64 (c : Int) ∧ c ≤ x.cus.length) (fun _ _ _ iv => x.cus.length - (intOf iv).toNat)
     case atStart => exact ⟨0,rfl,rfl,rfl,rfl,Nat.zero_le _⟩
     case round =>
      obtain ⟨c,rfl,rfl,rfl,rfl,hc⟩ := hrel; have hsz := Z5d (c := c) (z := z); have hsm := Zgh (f := ldI x) (C := x.cus.length) (c := c) (z := z) (fun i hi => ⟨by have := HLD.out i hi; omega,(HLD.out i hi).2⟩) hc
      by_cases hct : c < x.cus.length
      ·have q0 := HRC.out c hct
       by_cases hb : z.testBit c = true
       ·have v1 := Z84 (by omega) (by omega) hb
        have q1 := HPC.out c hct; have hl := HLD.out c hct; have HS1 := hid (Z85 (f := ldI x) hb); have HS2 := hid (Z5o hb); have HS3 := hid (Zjp (P := p s) hb); clear hb; cases hk : subB c (p s) z with
        | true =>
         rw [hk] at HS3; generalize ldI x c = lc at *; generalize p s c = pc at *; generalize sumZ c (ldI x) z = sm at *; generalize sizeZ c z = sz at *; clear hk; go_wp2_with fail
         go_round
         case rel => exact ⟨c + 1,by rw [HS1.out],by rw [HS2.out],by rw [HS3.out]; rfl,by go_num,by omega⟩
         case measure => simp [intOf]; omega
        | false =>
         rw [hk] at HS3; generalize ldI x c = lc at *; generalize p s c = pc at *; generalize sumZ c (ldI x) z = sm at *; generalize sizeZ c z = sz at *; clear hk; go_wp2_with fail
         go_round
         case rel => exact ⟨c + 1,by rw [HS1.out],by rw [HS2.out],by rw [HS3.out]; rfl,by go_num,by omega⟩
         case measure => simp [intOf]; omega
       ·have v1 := Zbe (by omega) (by omega) hb
        have HS1 := hid (Z86 (f := ldI x) hb); have HS2 := hid (Z5c hb); have HS3 := hid (Zmj (P := p s) hb); clear hb; go_wp2_with fail
        go_round
        case rel => exact ⟨c + 1,by rw [HS1.out],by rw [HS2.out],by rw [HS3.out],by go_num,by omega⟩
        case measure => simp [intOf]; omega
      ·obtain rfl : c = x.cus.length := by omega
       have hbi := HBT.out.in_; cases hk : subB x.cus.length (p s) z with
       | true =>
        by_cases hle : sumZ x.cus.length (ldI x) z ≤ rm
        ·have HN := hid (HBT.out.yes (subB_true.1 hk) hle)
         have hled : decide (sumZ x.cus.length (ldI x) z ≤ rm) = true := decide_eq_true hle; obtain ⟨sz,hszz⟩ : ∃ m,sizeZ x.cus.length z = m := ⟨_,rfl⟩; rw [hszz] at hsz HN; rw [hszz]; obtain ⟨mx,hmx⟩ : ∃ m,max best sz = m := ⟨_,rfl⟩; have hmi : (if best < sz then sz else best) = mx := by rw [← hmx]; split <;> omega
         rw [hmx] at HN; generalize sumZ x.cus.length (ldI x) z = sm at *; clear hk hszz; go_wp2_with fail
         go_round
         case rel => exact ⟨z + 1,mx,(by first | rfl | exact congrArg (Value.int IntKind.i64) hmx),by go_num,by omega,HN⟩
         case measure => simp [intOf]; omega
        ·have HN := hid (HBT.out.no (fun h => hle h.2))
         have hled : decide (sumZ x.cus.length (ldI x) z ≤ rm) = false := decide_eq_false hle; generalize sumZ x.cus.length (ldI x) z = sm at *; generalize sizeZ x.cus.length z = sz at *; clear hk; go_wp2_with fail
         go_round
         case rel => exact ⟨z + 1,best,rfl,by go_num,by omega,HN⟩
         case measure => simp [intOf]; omega
       | false =>
        have HN := hid (HBT.out.no (fun h => by rw [subB_true.2 h.1] at hk; cases hk))
        generalize sumZ x.cus.length (ldI x) z = sm at *; generalize sizeZ x.cus.length z = sz at *; clear hk; go_wp2_with fail
        go_round
        case rel => exact ⟨z + 1,best,rfl,by go_num,by omega,HN⟩
        case measure => simp [intOf]; omega
    ·obtain rfl : z = M := by omega
     have HCO : Hid (CountOf x.cus.length (p s) (ldI x) (roomI x s) best) := hid (by
      rw [HRMM.out]; have h := HBT.out; rw [← HMM.out] at h; exact h.done)
     have HCN := hid (HCT.out.push HCO.out); have hs12 : s ≤ 12 := by omega
     have hsz2 := HB.out.size; have HOA := hid (HO.out.alloc (.cells #[.int .i64 best] 3)); have HBA := hid (HB.out.alloc HB.out.size (.cells #[.int .i64 best] 3)); clear HBT HCO; go_wp2_with (at_builtin; refine wpList_append_own _ rfl (.tmp 69) (.tmp 71) 37 rfl w2.heap.size 3 i0 _ 1 8 Tryz.underlying37 hi0 hz0 hz1 hz2 (by decide) (by decide) (.slice oa s oc) s (numsV l) rfl (HO.out.alloc _) ⟨wr.heap.size,0,none⟩ 1 1 [.int .i64 best] rfl rfl (Z1b _ _ _ _ rfl) (by intro u hu; simp at hu; subst hu; rfl) (by unfold maxLen; omega) (by omega) (by simp; omega) ?_; intro v' w9 hown hgrow _; have HOW := hid hown; have HGR := hid hgrow; clear hown hgrow)
     have HB9 := hid (HBA.out.grown HGR.out (by simp; omega) (fun k hk => (World.ownsRow.lt HOA.out k hk).1))
     have HO9 : Hid (w9.ownsRow w2.heap.size 3 1 v' (s + 1) (numsV (l ++ [best]))) := hid (by rw [show numsV (l ++ [best]) = numsV l ++ [.int .i64 best] from by simp [numsV]]; exact HOW.out)
     go_roundw
     case rel => exact ⟨s + 1,_,by go_num,by omega,HCN,HB9,HO9⟩
     case measure => simp [intOf]; omega
  ·obtain rfl : s = x.sats.length := by omega
   go_wp2_with fail
   go_ret
   have hll := HCT.out.1; obtain ⟨a,c,e,hn⟩ := Zek HO.out hll; injection e with e1 _ e3
   subst e1 e3; refine ⟨l,oa,oc,by rw [hll]; rfl,by rw [hll]; exact hn,⟨p,HP.out,hll,HCT.out.2⟩,HX2.out.below.trans (HB.out.mono HX2.out.below.size)⟩
end Go.Proofs.YtfkommjlmolniaaGreatDoor
end
