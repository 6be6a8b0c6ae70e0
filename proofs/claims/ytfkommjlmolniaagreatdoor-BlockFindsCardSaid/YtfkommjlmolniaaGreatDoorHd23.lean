/- Joined: BestT, BSum, BCutT, BNetT. -/
import Derived.Test.YtfkommjlmolniaaGreatDoorHd2
import Derived.Test.YtfkommjlmolniaaGreatDoorHd22
import Derived.Test.YtfkommjlmolniaaGreatDoorHd5
set_option linter.unusedVariables false
section

namespace Go.Proofs.YtfkommjlmolniaaGreatDoor
variable {C S n m z y T : Nat} {f r : Nat → Int} {P : Nat → Bool} {p : Nat → Nat → Bool} {room : Int} {ix : List Nat} {ls : List Int}
/-! ### The least first -/
def cntB (b : Nat → Bool) : Nat → Nat
 | 0 => 0
 | n + 1 => cntB b n + (if b n = true then 1 else 0)
theorem Zbo {b : Nat → Bool} : ∀ n,cntB b n ≤ n
 | 0 => Nat.le_refl _
 | n + 1 => by have := Zbo (b := b) n; rw [cntB]; split <;> omega
theorem Zcy {b : Nat → Bool} : ∀ n,sumD (fun j => if b j = true then 1 else 0) n = (cntB b n : Int)
 | 0 => rfl
 | n + 1 => by
  rw [sumD,cntB,Zcy n]; split <;> simp
theorem Z9q {g : Nat → Int} {b : Nat → Bool} : ∀ m,(∀ i j,i ≤ j → j < m → g i ≤ g j) → sumD g (cntB b m) ≤ sumD (fun j => if b j = true then g j else 0) m
 | 0,_ => Int.le_refl _
 | m + 1,h => by
  have ih := Z9q (g := g) (b := b) m (fun i j hij hj => h i j hij (by omega))
  rw [cntB,sumD]; by_cases e : b m = true
  ·rw [if_pos e,if_pos e,sumD]
   have := h (cntB b m) m (Zbo m) (by omega)
   omega
  ·rw [if_neg e,if_neg e,Nat.add_zero]
   omega
theorem Z9r {g : Nat → Int} (hg : ∀ j,0 ≤ g j) {a : Nat} : ∀ b,a ≤ b → sumD g a ≤ sumD g b
 | 0,h => by rw [show a = 0 by omega]; exact Int.le_refl _
 | b + 1,h => by
  by_cases e : a = b + 1
  ·rw [e]; exact Int.le_refl _
  ·have ih := Z9r (a := a) hg b (by omega)
   have := hg b; rw [sumD]; omega
theorem Z75 {a : Nat} {v : Int} : ∀ C,a < C → sumD (fun c => if c = a then v else 0) C = v
 | 0,h => absurd h (by omega)
 | C + 1,h => by
  rw [sumD]; by_cases e : C = a
  ·rw [if_pos e]
   have : sumD (fun c => if c = a then v else 0) C = 0 := by
    have h0 : sumD (fun c => if c = a then v else 0) C = sumD (fun _ => 0) C := Z0f fun c hc => if_neg (by omega)
    rw [h0]; clear h0; clear h e; induction C with
    | zero => rfl
    | succ C ih => rw [sumD,ih]; rfl
   omega
  ·rw [if_neg e,Z75 C (by omega)]
   omega
theorem Z2t {h : Nat → Int} : ∀ {ix : List Nat},ix.Nodup → (∀ c ∈ ix,c < C) → (ix.map h).sum = sumD (fun c => if c ∈ ix then h c else 0) C
 | [],_,_ => by
  simp
  have : ∀ C,sumD (fun _ => 0) C = 0 := fun C => by
   induction C with
   | zero => rfl
   | succ C ih => rw [sumD,ih]; rfl
  exact (this C).symm
 | a :: t,hn,hl => by
  have hn2 := List.nodup_cons.1 hn; rw [List.map_cons,List.sum_cons,Z2t hn2.2 (fun c hc => hl c (List.mem_cons_of_mem _ hc)),← Z75 (v := h a) C (hl a List.mem_cons_self),
   ← Z1t (h := fun c => (if c = a then h a else 0) + (if c ∈ t then h c else 0)) (fun _ _ => rfl)]
  refine Z0f fun c _ => ?_; by_cases e : c = a
  ·subst e
   simp [hn2.1]
  ·simp [e]
theorem Zcz {h : Nat → Int} : ∀ (ix : List Nat) (n : Nat),n ≤ ix.length → sumD (fun j => h (ix.getD j 0)) n = ((ix.take n).map h).sum
 | ix,0,_ => by simp [sumD]
 | ix,n + 1,hn => by
  have hl : n < ix.length := by omega
  rw [sumD,Zcz ix n (by omega),List.take_add_one,List.map_append,List.sum_append]
  simp [List.getD,hl]
def zOf : List Nat → Nat
 | [] => 0
 | c :: t => zOf t ||| 2 ^ c
theorem zOf_bit {c : Nat} : ∀ {t : List Nat},(zOf t).testBit c = true ↔ c ∈ t
 | [] => by simp [zOf]
 | a :: t => by
  rw [zOf,Nat.testBit_or,Bool.or_eq_true,zOf_bit,Nat.testBit_two_pow,decide_eq_true_eq,List.mem_cons]; constructor
  ·rintro (h | h)
   ·exact .inr h
   ·exact .inl h.symm
  ·rintro (h | h)
   ·exact .inr h.symm
   ·exact .inl h
theorem Z9s (hnd : ix.Nodup) (hlt : ∀ c ∈ ix,c < C) (hP : ∀ c,c < C → (c ∈ ix ↔ P c = true)) (hf : ∀ c,0 ≤ f c)
  (hs : ∀ i j,i ≤ j → j < ix.length → f (ix.getD i 0) ≤ f (ix.getD j 0)) (hn : n ≤ ix.length) (hfit : ((ix.take n).map f).sum ≤ room)
  (hstop : n = ix.length ∨ room < ((ix.take (n + 1)).map f).sum) : CountOf C P f room (n : Int) := by
 have hall : ∀ (h : Nat → Int),sumD (fun j => h (ix.getD j 0)) ix.length = sumD (fun c => if c ∈ ix then h c else 0) C := fun h => by
  rw [Zcz ix ix.length (Nat.le_refl _),List.take_length,Z2t hnd hlt]
 have hsub : ∀ z,SubZ C P z → ∀ h : Nat → Int,sumD (fun c => if z.testBit c = true then h c else 0) C = sumD (fun j => if z.testBit (ix.getD j 0) = true then h (ix.getD j 0) else 0) ix.length := fun z hz h => by
  rw [hall (fun c => if z.testBit c = true then h c else 0)]
  refine Z0f fun c hc => ?_; by_cases e : z.testBit c = true
  ·rw [if_pos e,if_pos ((hP c hc).2 (hz c hc e))]
  ·rw [if_neg e]
   split <;> rfl
 refine ⟨⟨zOf (ix.take n),fun c hc hz => ?_,?_,?_⟩,fun z hz hl => ?_⟩
 ·exact (hP c hc).1 (List.mem_of_mem_take (zOf_bit.1 hz))
 ·have e : sumZ C f (zOf (ix.take n)) = ((ix.take n).map f).sum := by
   rw [Z2t (hnd.sublist (List.take_sublist n ix)) (fun c hc => hlt c (List.mem_of_mem_take hc))]; refine Z0f fun c _ => ?_; by_cases e : c ∈ ix.take n
   ·rw [if_pos e,if_pos (zOf_bit.2 e)]
   ·rw [if_neg e,if_neg (fun h => e (zOf_bit.1 h))]
  rw [e]; exact hfit
 ·have e : sizeZ C (zOf (ix.take n)) = ((ix.take n).map (fun _ => (1 : Int))).sum := by
   rw [Z2t (hnd.sublist (List.take_sublist n ix)) (fun c hc => hlt c (List.mem_of_mem_take hc))]; refine Z0f fun c _ => ?_; by_cases e : c ∈ ix.take n
   ·rw [if_pos e,if_pos (zOf_bit.2 e)]
   ·rw [if_neg e,if_neg (fun h => e (zOf_bit.1 h))]
  rw [e,← Zcz ix n hn]; clear e hsub hall hstop hfit hn; induction n with
  | zero => rfl
  | succ n ih => rw [sumD,ih]; simp
 ·have e1 : sizeZ C z = (cntB (fun j => z.testBit (ix.getD j 0)) ix.length : Int) := by
   rw [← Zcy]; exact hsub z hz (fun _ => 1)
  have e2 : sumZ C f z = sumD (fun j => if z.testBit (ix.getD j 0) = true then f (ix.getD j 0) else 0) ix.length := hsub z hz f
  have h3 := Z9q (g := fun j => f (ix.getD j 0)) (b := fun j => z.testBit (ix.getD j 0)) ix.length hs; rw [e1]; have hle := Zbo (b := fun j => z.testBit (ix.getD j 0)) ix.length; rcases hstop with h | h
  ·omega
  ·by_cases hk : cntB (fun j => z.testBit (ix.getD j 0)) ix.length ≤ n
   ·omega
   ·exfalso
    rw [← Zcz ix (n + 1) (by omega)] at h
    have h4 := Z9r (g := fun j => f (ix.getD j 0)) (fun j => hf _) (a := n + 1) (cntB (fun j => z.testBit (ix.getD j 0)) ix.length) (by omega)
    omega
theorem Zk4 {ls M : List Int} (h : ls.Perm M) : ∀ L : List Nat,L.map f = M → ∃ ix : List Nat,ix.Perm L ∧ ix.map f = ls := by
 induction h with
 | nil => exact fun L hL => ⟨[],by rw [List.map_eq_nil_iff.1 hL],rfl⟩
 | cons x _ ih =>
  intro L hL; match L,hL with
  | c :: L,hL =>
   rw [List.map_cons,List.cons.injEq] at hL; obtain ⟨ix,h1,h2⟩ := ih L hL.2; exact ⟨c :: ix,h1.cons c,by rw [List.map_cons,hL.1,h2]⟩
 | swap x y l =>
  intro L hL; match L,hL with
  | a :: b :: L,hL =>
   rw [List.map_cons,List.map_cons,List.cons.injEq,List.cons.injEq] at hL; exact ⟨b :: a :: L,List.Perm.swap a b L,by rw [List.map_cons,List.map_cons,hL.1,hL.2.1,hL.2.2]⟩
 | trans _ _ ih1 ih2 =>
  intro L hL; obtain ⟨i2,h1,h2⟩ := ih2 L hL; obtain ⟨i1,h3,h4⟩ := ih1 i2 h2; exact ⟨i1,h3.trans h1,h4⟩
theorem Z50 (hp : ls.Perm (((List.range C).filter P).map f)) (hs : ∀ i j,i ≤ j → j < ls.length → ls.getD i 0 ≤ ls.getD j 0) (hf : ∀ c,0 ≤ f c)
  (hn : n ≤ ls.length) (hfit : (ls.take n).sum ≤ room) (hstop : n = ls.length ∨ room < (ls.take (n + 1)).sum) : CountOf C P f room (n : Int) := by
 obtain ⟨ix,h1,rfl⟩ := Zk4 hp _ rfl; rw [List.length_map] at hn hs hstop; have hnd : ix.Nodup := h1.nodup_iff.2 (List.nodup_range.sublist List.filter_sublist); have hmem : ∀ c,c ∈ ix ↔ c < C ∧ P c = true := fun c => by rw [h1.mem_iff,List.mem_filter,List.mem_range]
 refine Z9s hnd (fun c hc => ((hmem c).1 hc).1) (fun c hc => ⟨fun h => ((hmem c).1 h).2,fun h => (hmem c).2 ⟨hc,h⟩⟩) hf (fun i j hij hj => ?_) hn (by rw [List.map_take]; exact hfit) (by rw [List.map_take]; exact hstop)
 have h := hs i j hij hj; have hi : i < ix.length := by omega
 simpa [List.getD,hi,hj] using h
/-! ### The worst set,from the satellites' side -/
end Go.Proofs.YtfkommjlmolniaaGreatDoor
end
section

namespace Go.Proofs.YtfkommjlmolniaaGreatDoor
open Go.Lib (hid)
open Go.RowKit
variable {w wr w2 : World} {V : VA} {y : Vw} {B g c s z t k C : Nat} {f : Nat → Int} {l : List Nat}
def sumL (f : Nat → Int) (l : List Nat) : Int := (l.map f).sum
theorem Z89 : ∀ {l : List Nat},(∀ c ∈ l,0 ≤ f c ∧ f c ≤ 1000000000) → 0 ≤ sumL f l ∧ sumL f l ≤ (l.length : Int) * 1000000000
 | [],_ => by simp [sumL]
 | a :: l,h => by
  have ih := Z89 (l := l) (fun c hc => h c (List.mem_cons_of_mem _ hc)); have h1 := h a List.mem_cons_self; unfold sumL at ih ⊢; rw [List.map_cons,List.sum_cons,List.length_cons]; omega
theorem Z9i (h : l[k]? = some c) : sumL f (l.take (k + 1)) = sumL f (l.take k) + f c := by
 unfold sumL; rw [List.take_add_one,h,List.map_append,List.sum_append]; simp
theorem Z72 (h : custB C z = true) : ∀ c ∈ allN z,c < C := fun c hc => by
 have := List.all_eq_true.1 h c hc; simpa using this
theorem Z9j {g : Nat → Bool} (h : ServeTo t k g) (hk : k ≤ 64) : ∀ s,s ∈ allN t ↔ s < k ∧ g s = true := fun s => by
 rw [Z2l]; constructor
 ·rintro ⟨h1,h2⟩
  rw [h.2 s h1,Bool.and_eq_true,decide_eq_true_eq] at h2; exact h2
 ·rintro ⟨h1,h2⟩
  refine ⟨by omega,?_⟩
  rw [h.2 s (by omega),h2,decide_eq_true h1]; rfl
def Z9k (y : Vw) (k : Int) (z t : Nat) : Int := sumL (needI y.x k) (allN z) - sumL (Z0e y k) (allN t)
set_option maxHeartbeats 4000000 in
theorem Z9l (V : VA) (y : Vw) (k : Int) (z : Nat) (w : World) (hi : IsView w.heap.size w V y) (ht : TabD w) (ho : y.Ok) (hz : z < 18446744073709551616) (hcu : custB y.x.cus.length z = true) :
  Calls Tryz.prog 45 #[.agg (viewC V y),.int .i64 k,.int .u64 (z : Int)] w fun e w' => ∃ t,e = .returned (.int .i64 (Z9k y k z t)) ∧ ServeTo t y.zs.length (fromF y z) ∧ Below w.heap.size w w' := by
 have HX := hid (VBox.make (Below.refl _ w) V y); have HI := hid hi; have HT := hid ht; have HO := hid ho; have HZ := hid hz; have HC := hid (Z72 hcu); have hns := ho.may.ns; have hnz := ho.nz; have hzl : y.zs.length ≤ 60 := by omega
 have HNC := hid ho.nn; obtain ⟨c0,c1,c2,c3,c4,c5,c6,c7,c8,c9,c10⟩ := Z0c HX.out.blk; have hlen := Z2k z; clear hi ht ho hz hcu hns hnz; have HZL := hid hzl; clear hzl; unfold viewC at *; go_enter Tryz.func45,Tryz.ntmps45
 go_wp2_with fail
 obtain ⟨W0,hW0⟩ : ∃ W0,w.alloc (.cells (viewC V y) 65) = W0 := ⟨_,rfl⟩; unfold viewC at hW0; rw [hW0] at HX ⊢; clear hW0 c0 c1 c2 c3 c4 c5 c6 c7 c8 c9 c10; refine (Z5e z HZ.out _ (Z09 HT.out HX.out.below)).mono ?_; rintro e w1 ⟨a,cp,rfl,hnums,hb1⟩; have HX1 := hid (HX.out.later hb1); have HN1 := hid hnums; obtain ⟨n,hn1⟩ : ∃ n,(allN z).length = n := ⟨_,rfl⟩; rw [hn1] at HN1 hlen ⊢; have HNL := hid hn1; clear hb1 hnums HX hn1; go_wp2_with fail
 go_loopw [7,15] (fun mv iv wr => ∃ i : Nat,iv = .int .i64 (i : Int) ∧ mv = .int .i64 (sumL (needI y.x k) ((allN z).take i)) ∧ i ≤ n ∧ Hid (VBox w wr w.heap.size V y) ∧ Hid (IsNums wr.heap.size wr a n (allI z))) (fun _ iv _ => n - (intOf iv).toNat)
 case atStart => exact ⟨0,rfl,rfl,Nat.zero_le _,HX1,HN1⟩
 case round =>
  obtain ⟨i,rfl,rfl,hi,HXR,HNR⟩ := hrel; clear HX1 HN1; by_cases hlt : i < n
  ·obtain ⟨b,off,u,hma,hu,q0⟩ := HNR.out.at_ hlt
   obtain ⟨c,hc,rfl,hc64,hcb⟩ := Z87 hu; have hcC := HC.out c (List.mem_of_getElem? hc); have HSN := hid (Z9i (f := needI y.x k) hc); have hs0 := Z89 (f := needI y.x k) (l := (allN z).take i) (fun d hd => Z3k HO.out.may k (HC.out d (List.mem_of_mem_take hd))); have hl0 : ((allN z).take i).length ≤ 64 := by rw [List.length_take]; omega
   have hn0 := Z3k HO.out.may k hcC; have HMA := hid hma; have HCC := hid hcC; obtain ⟨c0,c1,c2,c3,c4,c5,c6,c7,c8,c9,c10⟩ := Z0c HXR.out.blk; obtain ⟨S,hS⟩ : ∃ S,sumL (needI y.x k) ((allN z).take i) = S := ⟨_,rfl⟩; obtain ⟨N,hN⟩ : ∃ N,needI y.x k c = N := ⟨_,rfl⟩; rw [hS,hN] at HSN; rw [hS] at hs0 ⊢; rw [hN] at hn0; have HN := hid hN; have s1 : 0 ≤ S := hs0.1; have s2 : S ≤ 64 * 1000000000 := by omega
   have s3 : 0 ≤ N := hn0.1; have s4 : N ≤ 1000000000 := hn0.2; rw [hma]; clear hu hc hma hcb hcC hS hN hs0 hn0 hl0; go_wp2_with (go_at_call 63; refine (Z38 V y k c _ (HXR.out.view HI.out) HCC.out).mono ?_; rw [HN.out]; rintro e w9 ⟨rfl,hb9⟩; have HX9 := hid (HXR.out.later hb9); have HN9 := hid ((HNR.out.later hb9).mono hb9.size); clear hb9)
   go_roundw
   case rel => exact ⟨i + 1,by go_num,by rw [HSN.out],by omega,HX9,by have h := HN9; rw [HMA.out] at h; exact h⟩
   case measure => simp [intOf]; omega
  ·obtain rfl : i = n := by omega
   have hall : (allN z).take i = allN z := List.take_of_length_le (by rw [HNL.out]; exact Nat.le_refl _)
   rw [hall]; have hs0 := Z89 (f := needI y.x k) (l := allN z) (fun d hd => Z3k HO.out.may k (HC.out d hd)); rw [HNL.out] at hs0; obtain ⟨S,hS⟩ : ∃ S,sumL (needI y.x k) (allN z) = S := ⟨_,rfl⟩; rw [hS] at hs0 ⊢; have s1 : 0 ≤ S := hs0.1; have s2 : S ≤ 64 * 1000000000 := by omega
   have HS := hid hS; obtain ⟨c0,c1,c2,c3,c4,c5,c6,c7,c8,c9,c10⟩ := Z0c HXR.out.blk; clear hs0 hS hall HNR HNL; obtain ⟨wA,hwA⟩ : ∃ wA,wA = wr := ⟨_,rfl⟩; subst hwA; go_wp2_with fail
   clear c0 c1 c2 c3 c4 c5 c6 c7 c8 c9 c10; refine (Zcr V y z _ (HXR.out.view HI.out) HZ.out HZL.out).mono ?_; rintro e w2 ⟨t,rfl,hst,hb2⟩; have HX2 := hid (HXR.out.later hb2); have HST := hid hst; clear hb2 hst; go_wp2_with fail
   refine (Z5e t HST.out.1 _ (Z09 HT.out HX2.out.below)).mono ?_; rintro e w3 ⟨a2,cp2,rfl,hnums,hb3⟩; have HX3 := hid (HX2.out.later hb3); have HN3 := hid hnums; have hlen2 := Z2k t; obtain ⟨m,hm1⟩ : ∃ m,(allN t).length = m := ⟨_,rfl⟩; rw [hm1] at HN3 hlen2 ⊢; have HML := hid hm1; clear hb3 hnums hm1 HX2 HXR; go_wp2_with fail
   go_loopw [7,31] (fun mv iv wr => ∃ j : Nat,iv = .int .i64 (j : Int) ∧ mv = .int .i64 (S - sumL (Z0e y k) ((allN t).take j)) ∧ j ≤ m ∧ Hid (VBox w wr w.heap.size V y) ∧ Hid (IsNums wr.heap.size wr a2 m (allI t))) (fun _ iv _ => m - (intOf iv).toNat)
   case atStart => exact ⟨0,rfl,by simp [sumL],Nat.zero_le _,HX3,HN3⟩
   case round =>
    obtain ⟨j,rfl,rfl,hj,HXR,HNR⟩ := hrel; clear HX3 HN3; by_cases hlt2 : j < m
    ·obtain ⟨b,off,u,hma,hu,q0⟩ := HNR.out.at_ hlt2
     obtain ⟨d,hd,rfl,hd64,hdb⟩ := Z87 hu; have hmem : ∀ q ∈ allN t,q < y.x.sats.length := fun q hq => by have := ((Z9j HST.out (by have := HZL.out; omega) q).1 hq).1; rw [HO.out.nz] at this; exact this
     have hdS := hmem d (List.mem_of_getElem? hd); have HSN := hid (Z9i (f := Z0e y k) hd); have hs0 := Z89 (f := Z0e y k) (l := (allN t).take j) (fun q hq => Z47 HO.out k (hmem q (List.mem_of_mem_take hq))); have hl0 : ((allN t).take j).length ≤ 64 := by rw [List.length_take]; omega
     have hn0 := Z47 HO.out k hdS; have HMA := hid hma; have HDD := hid hdS; obtain ⟨c0,c1,c2,c3,c4,c5,c6,c7,c8,c9,c10⟩ := Z0c HXR.out.blk; obtain ⟨U,hU⟩ : ∃ U,sumL (Z0e y k) ((allN t).take j) = U := ⟨_,rfl⟩; obtain ⟨N,hN⟩ : ∃ N,Z0e y k d = N := ⟨_,rfl⟩; rw [hU,hN] at HSN; rw [hU] at hs0 ⊢; rw [hN] at hn0; have HN := hid hN; have s5 : 0 ≤ U := hs0.1; have s6 : U ≤ 64 * 1000000000 := by omega
     have s3 : 0 ≤ N := hn0.1; have s4 : N ≤ 1000000000 := hn0.2; rw [hma]; clear hu hd hma hdb hdS hU hN hs0 hn0 hl0 hmem; go_wp2_with (go_at_call 64; refine (Z3l V y k d _ (HXR.out.view HI.out) HDD.out HNC.out).mono ?_; rw [HN.out]; rintro e w9 ⟨rfl,hb9⟩; have HX9 := hid (HXR.out.later hb9); have HN9 := hid ((HNR.out.later hb9).mono hb9.size); clear hb9)
     go_roundw
     case rel => exact ⟨j + 1,by go_num,by rw [HSN.out]; congr 1; omega,by omega,HX9,by have h := HN9; rw [HMA.out] at h; exact h⟩
     case measure => simp [intOf]; omega
    ·obtain rfl : j = m := by omega
     have hall : (allN t).take j = allN t := List.take_of_length_le (by rw [HML.out]; exact Nat.le_refl _)
     rw [hall]; have hv : Hid (S - sumL (Z0e y k) (allN t) = Z9k y k z t) := hid (by unfold Z9k; rw [HS.out])
     rw [hv.out]; go_wp2_with fail
     go_ret
     exact ⟨t,rfl,HST.out,HXR.out.below⟩
/-! ### What that is -/
theorem Zcv {a b : Nat} (ha : a < 18446744073709551616) (h : ∀ c,c < 64 → a.testBit c = true → b.testBit c = true → False) : a &&& b = 0 := by
 refine Zd3 (Zm8 ha b) (by decide) fun c hc => ?_
 rw [Nat.testBit_and,Nat.zero_testBit]; cases e1 : a.testBit c with
 | false => rfl
 | true => cases e2 : b.testBit c with
  | false => rfl
  | true => exact (h c hc e1 e2).elim
theorem Zbn (ho : y.Ok) (hzs : ∀ u ∈ y.zs,u < 18446744073709551616) (s z : Nat) (hs : s < y.zs.length) : fromF y z s = Z0k y.x.cus.length (y.p s) z := by
 have hnc := ho.may.nc; apply Bool.eq_iff_iff.2
 unfold fromF; rw [touchZ_true,decide_eq_true_eq]; have hm : y.zs.getD s 0 ∈ y.zs := by rw [List.getD,List.getElem?_eq_getElem hs]; exact List.getElem_mem hs
 constructor
 ·intro h
  apply Classical.byContradiction
  intro hn; refine h (Zcv (hzs _ hm) fun c _ h1 h2 => hn ⟨c,?_,h1,h2⟩); rcases Nat.lt_or_ge c y.x.cus.length with h3 | h3
  ·exact h3
  ·rw [ho.bits _ hm c h3] at h1; cases h1
 ·rintro ⟨c,_,h1,h2⟩ h0
  have h3 : (y.zs.getD s 0 &&& z).testBit c = true := by rw [Nat.testBit_and,h2,Bool.and_true]; exact h1
  rw [h0,Nat.zero_testBit] at h3; cases h3
theorem Z9m (ho : y.Ok) (hzs : ∀ u ∈ y.zs,u < 18446744073709551616) (k : Int) (hcu : custB y.x.cus.length z = true) (ht : ServeTo t y.zs.length (fromF y z)) :
  Z9k y k z t = Z0r y.x.cus.length y.x.sats.length y.p (needI y.x k) (Z0e y k) z := by
 have hns := ho.may.ns; have hnd : ∀ u,(allN u).Nodup := fun u => List.nodup_range.sublist List.filter_sublist; have hsm := Z9j ht (by have := ho.nz; omega)
 unfold Z9k Z0r sumL sumZ; rw [Z2t (C := y.x.cus.length) (hnd z) (Z72 hcu),Z2t (C := y.x.sats.length) (hnd t) (fun s hs => by have := ((hsm s).1 hs).1; rw [ho.nz] at this; exact this)]
 have hnc := ho.may.nc; rw [Z0f (g := fun c => if z.testBit c = true then needI y.x k c else 0) (fun c hc => by
  by_cases h : z.testBit c = true
  ·rw [if_pos ((Z2l z c).2 ⟨by omega,h⟩),if_pos h]
  ·rw [if_neg (fun e => h ((Z2l z c).1 e).2),if_neg h]),
  Z0f (f := fun s => if s ∈ allN t then Z0e y k s else 0) (g := fun s => if Z0k y.x.cus.length (y.p s) z = true then Z0e y k s else 0) (fun s hs => by
   have e := Zbn ho hzs s z (by rw [ho.nz]; exact hs)
   by_cases h : Z0k y.x.cus.length (y.p s) z = true
   ·rw [if_pos h,if_pos ((hsm s).2 ⟨by rw [ho.nz]; exact hs,by rw [e]; exact h⟩)]
   ·rw [if_neg h,if_neg (fun e2 => h (by rw [← e]; exact ((hsm s).1 e2).2))])]
end Go.Proofs.YtfkommjlmolniaaGreatDoor
end
section

namespace Go.Proofs.YtfkommjlmolniaaGreatDoor
variable {C Q N s t z y : Nat} {f r : Nat → Int} {p : Nat → Nat → Bool} {l : List Pi} {cn sn : Nat → Nat} {big : Nat → Nat → Int} {fl : Nat → Int} {much : Int} {d : Nat → Bool}
structure CutNet (l : List Pi) (s t C Q : Nat) (p : Nat → Nat → Bool) (f r : Nat → Int) (cn sn : Nat → Nat) (big : Nat → Nat → Int) : Prop where
 cap : ∀ S : Nat → Bool,S s = true → S t = false → Z3b l S l.length = sumD (fun c => if S (cn c) = true then 0 else f c) C + sumD (fun q => if S (sn q) = true then r q else 0) Q + sumD (fun c => sumD (fun q => if (p q c && S (cn c) && !S (sn q)) = true then big c q else 0) Q) C
 any_ : ∀ a b : Nat → Bool,∃ S : Nat → Bool,S s = true ∧ S t = false ∧ (∀ c,c < C → S (cn c) = a c) ∧ ∀ q,q < Q → S (sn q) = b q
 big : ∀ c q,c < C → q < Q → p q c = true → f c ≤ big c q
theorem Zgj {g : Nat → Int} : ∀ {n u : Nat},u < n → (∀ i,i < n → 0 ≤ g i) → g u ≤ sumD g n
 | 0,_,h,_ => absurd h (by omega)
 | n + 1,u,h,h0 => by
  rw [sumD]; by_cases e : u = n
  ·subst e
   have := Z20 (f := g) (n := u) (fun i hi => h0 i (by omega))
   omega
  ·have := Zgj (g := g) (n := n) (u := u) (by omega) (fun i hi => h0 i (by omega))
   have := h0 n (by omega)
   omega
theorem Zmk (B : Nat → Bool) (C : Nat) : ∃ y : Nat,y < 2 ^ C ∧ ∀ c,c < C → y.testBit c = B c := by
 induction C with
 | zero => exact ⟨0,by simp,fun s hs => absurd hs (by omega)⟩
 | succ C ih =>
  obtain ⟨T,h1,h2⟩ := ih; have hp : 2 ^ (C + 1) = 2 ^ C + 2 ^ C := by rw [Nat.pow_succ]; omega
  cases e : B C with
  | true =>
   refine ⟨T ||| 2 ^ C,Nat.or_lt_two_pow (by omega) (by have := Nat.two_pow_pos C; omega),fun s hs => ?_⟩
   rw [Nat.testBit_or,Nat.testBit_two_pow]; by_cases e2 : s = C
   ·subst e2
    simp [e]
   ·rw [h2 s (by omega),decide_eq_false (fun h => e2 h.symm),Bool.or_false]
  | false =>
   refine ⟨T,by omega,fun s hs => ?_⟩
   by_cases e2 : s = C
   ·subst e2
    rw [Nat.testBit_lt_two_pow h1,e]
   ·exact h2 s (by omega)
theorem Zbf (h : ∀ c,c < C → z.testBit c = y.testBit c) : Z0r C Q p f r z = Z0r C Q p f r y := by
 have e : ∀ q,Z0k C (p q) z = Z0k C (p q) y := fun q => by
  apply Bool.eq_iff_iff.2
  rw [touchZ_true,touchZ_true]; constructor
  ·rintro ⟨c,hc,h1,h2⟩; exact ⟨c,hc,h1,by rw [← h c hc]; exact h2⟩
  ·rintro ⟨c,hc,h1,h2⟩; exact ⟨c,hc,h1,by rw [h c hc]; exact h2⟩
 unfold Z0r sumZ; rw [Z0f (f := fun c => if z.testBit c = true then f c else 0) (g := fun c => if y.testBit c = true then f c else 0) (fun c hc => by rw [h c hc])]
 simp only [e]
theorem CutNet.of_set (h : CutNet l s t C Q p f r cn sn big) (z : Nat) : ∃ S : Nat → Bool,S s = true ∧ S t = false ∧ (∀ c,c < C → S (cn c) = z.testBit c) ∧ Z3b l S l.length = sumD f C - Z0r C Q p f r z := by
 obtain ⟨S,h1,h2,h3,h4⟩ := h.any_ (fun c => z.testBit c) (fun q => Z0k C (p q) z); refine ⟨S,h1,h2,h3,?_⟩; rw [h.cap S h1 h2]; have e1 : sumD (fun c => if S (cn c) = true then 0 else f c) C + sumZ C f z = sumD f C := by
  refine (Z1t (fun c hc => ?_)).symm; rw [h3 c hc]; cases z.testBit c <;> simp
 have e2 : sumD (fun q => if S (sn q) = true then r q else 0) Q = sumD (fun q => if Z0k C (p q) z = true then r q else 0) Q := Z0f fun q hq => by rw [h4 q hq]
 have e3 : sumD (fun c => sumD (fun q => if (p q c && S (cn c) && !S (sn q)) = true then big c q else 0) Q) C = 0 := by
  refine (Z0f (g := fun _ => 0) fun c hc => ?_).trans (Z3j C); refine (Z0f (g := fun _ => 0) fun q hq => if_neg fun he => ?_).trans (Z3j Q); rw [h3 c hc,h4 q hq,Bool.and_eq_true,Bool.and_eq_true,Bool.not_eq_true'] at he; have := touchZ_true.2 ⟨c,hc,he.1.1,he.1.2⟩; rw [he.2] at this; cases this
 unfold Z0r; omega
theorem CutNet.best (h : CutNet l s t C Q p f r cn sn big) (hm : IsMost l N fl s t much) (hok : ∀ x ∈ l,okP (N : Int) x = true) (hs : s < N) (ht : t < N) (hst : s ≠ t)
  (hd : ∀ i,i < N → (d i = true ↔ Res l fl s i)) (hcn : ∀ c,c < C → cn c < N) (hf : ∀ c,c < C → 0 ≤ f c) (hr : ∀ q,q < Q → 0 ≤ r q)
  (hzb : ∀ c,c < C → z.testBit c = d (cn c)) :
  much = sumD f C - Z0r C Q p f r z ∧ (∀ y,Z0r C Q p f r y ≤ Z0r C Q p f r z) ∧ ∀ y,Z0r C Q p f r y = Z0r C Q p f r z → sizeZ C z ≤ sizeZ C y := by
 have hall : ∀ y,Z0r C Q p f r y ≤ sumD f C - much := fun y => by
  obtain ⟨S,h1,h2,_,h4⟩ := h.of_set y; have := hm.flow.weak hok hs ht hst h1 h2; rw [h4,← hm.much] at this; omega
 have hsame : ∀ y,Z0r C Q p f r y = sumD f C - much → ∀ c,c < C → z.testBit c = true → y.testBit c = true := fun y he c hc hz => by
  obtain ⟨S,h1,h2,h3,h4⟩ := h.of_set y; have hfull := hm.flow.full hok hs ht hst h1 h2 (by rw [h4,← hm.much]; omega)
  rw [hzb c hc] at hz; have := ((hd _ (hcn c hc)).1 hz).stays h1 hfull; rw [h3 c hc] at this; exact this
 obtain ⟨k1,k2,k3⟩ := hm.reach hok hs ht hst hd; rw [h.cap d k1 k2] at k3; obtain ⟨y,_,hy⟩ := Zmk (fun c => d (cn c) && (List.range Q).all (fun q => !p q c || d (sn q))) C
 have hy1 : ∀ c,c < C → y.testBit c = true → d (cn c) = true ∧ ∀ q,q < Q → p q c = true → d (sn q) = true := fun c hc hb => by
  rw [hy c hc,Bool.and_eq_true,List.all_eq_true] at hb; refine ⟨hb.1,fun q hq hp => ?_⟩; have := hb.2 q (List.mem_range.2 hq); rw [hp] at this; simpa using this
 have hy2 : ∀ c,c < C → ¬ y.testBit c = true → d (cn c) = true → ∃ q,q < Q ∧ p q c = true ∧ d (sn q) = false := fun c hc hb h1 => by
  apply Classical.byContradiction
  intro hn; apply hb
  rw [hy c hc,Bool.and_eq_true,List.all_eq_true]; refine ⟨h1,fun q hq => ?_⟩; cases e1 : p q c with
  | false => rfl
  | true =>
   cases e2 : d (sn q) with
   | true => rfl
   | false => exact absurd ⟨q,List.mem_range.1 hq,e1,e2⟩ hn
 have hin : ∀ c,c < C → ∀ q,q < Q → 0 ≤ (if (p q c && d (cn c) && !d (sn q)) = true then big c q else 0) := fun c hc q hq => by
  split
  ·rename_i e
   rw [Bool.and_eq_true,Bool.and_eq_true] at e; have := h.big c q hc hq e.1.1; have := hf c hc; omega
  ·exact Int.le_refl _
 have hinn : ∀ c,c < C → 0 ≤ sumD (fun q => if (p q c && d (cn c) && !d (sn q)) = true then big c q else 0) Q := fun c hc => Z20 (hin c hc)
 have t1 : sumD (fun c => if y.testBit c = true then 0 else f c) C ≤ sumD (fun c => if d (cn c) = true then 0 else f c) C + sumD (fun c => sumD (fun q => if (p q c && d (cn c) && !d (sn q)) = true then big c q else 0) Q) C := by
  rw [← Z1t (h := fun c => (if d (cn c) = true then 0 else f c) + sumD (fun q => if (p q c && d (cn c) && !d (sn q)) = true then big c q else 0) Q) (fun _ _ => rfl)]
  refine Z44 fun c hc => ?_; have h0 := hinn c hc; have h1 := hf c hc; by_cases e1 : y.testBit c = true
  ·rw [if_pos e1]
   split <;> omega
  ·rw [if_neg e1]
   by_cases e2 : d (cn c) = true
   ·obtain ⟨q,hq,e3,e4⟩ := hy2 c hc e1 e2
    have h2 := Zgj (g := fun q => if (p q c && d (cn c) && !d (sn q)) = true then big c q else 0) hq (hin c hc)
    have h3 := h.big c q hc hq e3; simp only [e3,e2,e4,Bool.and_self,Bool.not_false,if_true] at h2
    rw [if_pos e2]; simp only [e2] at *
    omega
   ·rw [if_neg e2]
    omega
 have t2 : sumD (fun q => if Z0k C (p q) y = true then r q else 0) Q ≤ sumD (fun q => if d (sn q) = true then r q else 0) Q := Z44 fun q hq => by
  have h0 := hr q hq; by_cases e : Z0k C (p q) y = true
  ·obtain ⟨c,hc,h1,h2⟩ := touchZ_true.1 e
   rw [if_pos e,if_pos ((hy1 c hc h2).2 q hq h1)]; exact Int.le_refl _
  ·rw [if_neg e]
   split <;> omega
 have t3 : sumD (fun c => if y.testBit c = true then 0 else f c) C + sumZ C f y = sumD f C := (Z1t (fun c hc => by cases y.testBit c <;> simp)).symm
 have hq := hall y; have hyv : Z0r C Q p f r y = sumZ C f y - sumD (fun q => if Z0k C (p q) y = true then r q else 0) Q := rfl
 have he : Z0r C Q p f r y = sumD f C - much := by omega
 have hzy : Z0r C Q p f r z = Z0r C Q p f r y := Zbf fun c hc => by
  apply Bool.eq_iff_iff.2
  exact ⟨hsame y he c hc,fun hb => by rw [hzb c hc]; exact (hy1 c hc hb).1⟩
 refine ⟨by omega,fun u => by have := hall u; omega,fun u hu => Z44 fun c hc => ?_⟩
 have := hsame u (by omega) c hc
 by_cases e1 : z.testBit c = true
 ·rw [if_pos e1,if_pos (this e1)]; exact Int.le_refl _
 ·rw [if_neg e1]
  split <;> decide
theorem CutNet.found (h : CutNet l s t C Q p f r cn sn big) (hm : IsMost l N fl s t much) (hok : ∀ x ∈ l,okP (N : Int) x = true) (hs : s < N) (ht : t < N) (hst : s ≠ t)
  (hd : ∀ i,i < N → (d i = true ↔ Res l fl s i)) (hcn : ∀ c,c < C → cn c < N) (hf : ∀ c,c < C → 0 ≤ f c) (hr : ∀ q,q < Q → 0 ≤ r q)
  (hz : z < 2 ^ C) (hzb : ∀ c,c < C → z.testBit c = d (cn c)) :
  (much < sumD f C → IsBest C (Z0r C Q p f r) z) ∧ (¬ much < sumD f C → Z2e C (Z0r C Q p f r)) := by
 obtain ⟨a,b,c⟩ := h.best hm hok hs ht hst hd hcn hf hr hzb; exact ⟨fun hlt => ⟨hz,by omega,fun y _ => b y,fun y _ => c y⟩,fun hn y _ => by have := b y; omega⟩
end Go.Proofs.YtfkommjlmolniaaGreatDoor
end
section

namespace Go.Proofs.YtfkommjlmolniaaGreatDoor
variable {y : Vw} {k : Int} {c s i j t N n : Nat} {x : Pi} {l l2 : List Pi} {S : Nat → Bool} {h : Pi → Int}
def Vw.nd (y : Vw) : Nat := 1 + y.x.sats.length + y.x.cus.length
def Vw.cn (y : Vw) (c : Nat) : Nat := 1 + y.x.sats.length + c
def pipeC (y : Vw) (k : Int) (c : Nat) : Pi := ((y.nd : Int),(y.cn c : Int),needI y.x k c,0)
def pipeS (y : Vw) (k : Int) (s : Nat) : Pi := (((1 + s : Nat) : Int),0,Z0e y k s,0)
def pipeL (y : Vw) (s c : Nat) : Pi := ((y.cn c : Int),((1 + s : Nat) : Int),1099511627776,0)
def Z1u (y : Vw) (k : Int) (i : Nat) : List Pi := (List.range i).map (pipeC y k)
def satL (y : Vw) (k : Int) (s : Nat) : List Pi := pipeS y k s :: (allN (y.zs.getD s 0)).map (pipeL y s)
def netL (y : Vw) (k : Int) (s : Nat) : List Pi := Z1u y k y.x.cus.length ++ (List.range s).flatMap (satL y k)
def midL (y : Vw) (k : Int) (s j : Nat) : List Pi := netL y k s ++ pipeS y k s :: ((allN (y.zs.getD s 0)).take j).map (pipeL y s)
theorem Zbk : Z1u y k (i + 1) = Z1u y k i ++ [pipeC y k i] := by unfold Z1u; rw [List.range_succ,List.map_append]; rfl
theorem netL_zero : netL y k 0 = Z1u y k y.x.cus.length := by simp [netL]
theorem Z99 : netL y k (s + 1) = netL y k s ++ satL y k s := by
 unfold netL; rw [List.range_succ,List.flatMap_append,List.append_assoc]; simp
theorem Zgs : midL y k s 0 = netL y k s ++ [pipeS y k s] := by simp [midL]
theorem Zgt (h : (allN (y.zs.getD s 0))[j]? = some c) : midL y k s (j + 1) = midL y k s j ++ [pipeL y s c] := by
 unfold midL; rw [List.take_add_one,h]; simp
theorem Zjw : midL y k s (allN (y.zs.getD s 0)).length = netL y k (s + 1) := by
 rw [Z99,midL,satL,List.take_length]
theorem Z71 : (Z1u y k i).length = i := by simp [Z1u]
theorem Z5f : ∀ s,(netL y k s).length ≤ y.x.cus.length + 65 * s
 | 0 => by rw [netL_zero,Z71]; omega
 | s + 1 => by
  have := Z5f s; have h2 := Z2k (y.zs.getD s 0); rw [Z99,List.length_append,satL,List.length_cons,List.length_map]; omega
theorem Zjx : (midL y k s j).length ≤ y.x.cus.length + 65 * s + 65 := by
 have := Z5f (y := y) (k := k) s; have h2 := Z2k (y.zs.getD s 0); unfold midL; rw [List.length_append,List.length_cons,List.length_map,List.length_take]; omega
/-! ### What a cut lets through -/
theorem Z9a : ∀ n,sumP l (fun _ x => h x) n = ((l.take n).map h).sum
 | 0 => by simp [sumP]
 | n + 1 => by
  rw [sumP,Z9a n,List.take_add_one,List.map_append,List.sum_append]; cases l[n]? <;> simp
theorem Zmn : Z3b l S l.length = (l.map fun x => if outB S x = true then x.2.2.1 else 0).sum := by
 unfold Z3b; rw [Z9a,List.take_length]
theorem Z9b {f : Nat → Int} : ∀ n,((List.range n).map f).sum = sumD f n
 | 0 => rfl
 | n + 1 => by rw [List.range_succ,List.map_append,List.sum_append,Z9b n,sumD]; simp
theorem Zct {f : Nat → List Pi} : ∀ n,(((List.range n).flatMap f).map h).sum = sumD (fun s => ((f s).map h).sum) n
 | 0 => rfl
 | n + 1 => by
  rw [List.range_succ,List.flatMap_append,List.map_append,List.sum_append,Zct n,sumD]; simp
theorem Z9c {f : Nat → Nat → Int} : ∀ n m,sumD (fun a => sumD (fun b => f a b) m) n = sumD (fun b => sumD (fun a => f a b) n) m
 | 0,m => by
  have : ∀ m,sumD (fun _ => (0 : Int)) m = 0 := Z3j; exact (this m).symm
 | n + 1,m => by
  rw [sumD,Z9c n m,← Z1t (h := fun b => sumD (fun a => f a b) n + f n b) (fun _ _ => rfl)]; exact Z0f fun b _ => rfl
theorem Z88 (ho : y.Ok) (hs : s < y.zs.length) : ∀ c ∈ allN (y.zs.getD s 0),c < y.x.cus.length := fun c hc => by
 have hm : y.zs.getD s 0 ∈ y.zs := by rw [List.getD,List.getElem?_eq_getElem hs]; exact List.getElem_mem hs
 rcases Nat.lt_or_ge c y.x.cus.length with h | h
 ·exact h
 ·have := ((Z2l _ c).1 hc).2
  rw [ho.bits _ hm c h] at this; cases this
theorem Zmo (ho : y.Ok) (k : Int) : CutNet (netL y k y.x.sats.length) y.nd 0 y.x.cus.length y.x.sats.length y.p (needI y.x k) (Z0e y k) y.cn (fun s => 1 + s) (fun _ _ => 1099511627776) where
 cap := fun S h1 h2 => by
  have hnc := ho.may.nc; rw [Zmn,netL,List.map_append,List.sum_append,Zct,Z1u,List.map_map,Z9b]; have e1 : sumD ((fun x => if outB S x = true then x.2.2.1 else 0) ∘ pipeC y k) y.x.cus.length = sumD (fun c => if S (y.cn c) = true then 0 else needI y.x k c) y.x.cus.length := Z0f fun c _ => by
   simp only [Function.comp,pipeC,outB,Int.toNat_natCast,h1,Bool.true_and]
   cases S (y.cn c) <;> simp
  have e2 : sumD (fun s => ((satL y k s).map fun x => if outB S x = true then x.2.2.1 else 0).sum) y.x.sats.length = sumD (fun s => (if S (1 + s) = true then Z0e y k s else 0) + sumD (fun c => if (y.p s c && S (y.cn c) && !S (1 + s)) = true then 1099511627776 else 0) y.x.cus.length) y.x.sats.length := Z0f fun s hs => by
   rw [satL,List.map_cons,List.sum_cons,List.map_map,Z2t (ix := allN (y.zs.getD s 0)) (C := y.x.cus.length) (List.nodup_range.sublist List.filter_sublist) (Z88 ho (by rw [ho.nz]; exact hs))]
   have e3 : (if outB S (pipeS y k s) = true then (pipeS y k s).2.2.1 else 0) = if S (1 + s) = true then Z0e y k s else 0 := by
    simp only [pipeS,outB,Int.toNat_natCast,Int.toNat_zero,h2,Bool.not_false,Bool.and_true]
   rw [e3]; congr 1
   refine Z0f fun c hc => ?_; have e4 : (c ∈ allN (y.zs.getD s 0)) = (y.p s c = true) := by
    apply propext
    rw [Z2l]; exact ⟨fun h => h.2,fun h => ⟨by omega,h⟩⟩
   simp only [e4,Function.comp,pipeL,outB,Int.toNat_natCast]
   cases y.p s c <;> simp
  rw [e1,e2,Z1t (h := fun s => (if S (1 + s) = true then Z0e y k s else 0) + sumD (fun c => if (y.p s c && S (y.cn c) && !S (1 + s)) = true then 1099511627776 else 0) y.x.cus.length) (fun _ _ => rfl),Z9c y.x.cus.length y.x.sats.length]
  omega
 any_ := fun a b => by
  refine ⟨fun i => if i = y.nd then true else if i = 0 then false else if i < 1 + y.x.sats.length then b (i - 1) else a (i - 1 - y.x.sats.length),by simp,?_,fun c hc => ?_,fun q hq => ?_⟩
  ·have : ¬ 0 = y.nd := by unfold Vw.nd; omega
   simp [this]
  ·have h1 : ¬ y.cn c = y.nd := by unfold Vw.cn Vw.nd; omega
   have h2 : ¬ y.cn c = 0 := by unfold Vw.cn; omega
   have h3 : ¬ y.cn c < 1 + y.x.sats.length := by unfold Vw.cn; omega
   have h4 : y.cn c - 1 - y.x.sats.length = c := by unfold Vw.cn; omega
   simp only [h1,h2,h3,h4,if_false]
  ·have h1 : ¬ 1 + q = y.nd := by unfold Vw.nd; omega
   have h2 : ¬ 1 + q = 0 := by omega
   have h3 : 1 + q < 1 + y.x.sats.length := by omega
   have h4 : 1 + q - 1 = q := by omega
   simp only [h1,h2,h3,h4,if_false,if_true]
 big := fun c q hc _ _ => by have := Z3k ho.may k hc; omega
theorem Zm6 (ho : y.Ok) (k : Int) : ∀ x ∈ netL y k y.x.sats.length,okP ((y.nd + 1 : Nat) : Int) x = true := fun x hx => by
 have hns := ho.may.ns; have hnc := ho.may.nc; unfold netL at hx; rw [List.mem_append] at hx; refine okP_true.2 ?_; rcases hx with hx | hx
 ·unfold Z1u at hx
  rw [List.mem_map] at hx; obtain ⟨c,hc,rfl⟩ := hx; have hc := List.mem_range.1 hc; have := Z3k ho.may k hc; simp only [pipeC,Vw.nd,Vw.cn]
  omega
 ·rw [List.mem_flatMap] at hx
  obtain ⟨s,hs,hx⟩ := hx; have hs := List.mem_range.1 hs; have h1 := Z47 ho k hs; unfold satL at hx; rw [List.mem_cons] at hx; rcases hx with rfl | hx
  ·simp only [pipeS,Vw.nd]
   omega
  ·rw [List.mem_map] at hx
   obtain ⟨c,hc,rfl⟩ := hx; have := Z88 ho (by rw [ho.nz]; exact hs) c hc
   simp only [pipeL,Vw.nd,Vw.cn]
   omega
theorem Z9d (ho : y.Ok) (k : Int) : Z1s ((y.nd + 1 : Nat) : Int) (netL y k y.x.sats.length) = 0 := by
 have hns := ho.may.ns; have hnc := ho.may.nc; have hl := Z5f (y := y) (k := k) y.x.sats.length; refine checkP_zero.2 ⟨⟨by omega,by unfold Vw.nd; omega,by omega⟩,Zm6 ho k⟩
theorem Zjy (ho : y.Ok) (k : Int) : endsP ((y.nd + 1 : Nat) : Int) (netL y k y.x.sats.length) ((y.nd : Nat) : Int) ((0 : Nat) : Int) = 0 :=
 endsP_zero.2 ⟨Z9d ho k,by omega,by omega,by unfold Vw.nd; omega⟩
end Go.Proofs.YtfkommjlmolniaaGreatDoor
end
