/- Joined: IMakeOk, IAwake. -/
import Derived.Test.YtfkommjlmolniaaGreatDoorHd18
import Derived.Test.YtfkommjlmolniaaGreatDoorHd16
import Derived.Test.YtfkommjlmolniaaGreatDoorHsIMake
import Derived.Laws.MakeOwn
set_option linter.unusedVariables false
section

namespace Go.Proofs.YtfkommjlmolniaaGreatDoor
open Go.RowKit
variable {s : Sm} {zs : List Int} {N i k : Nat}
structure SmOk (s : Sm) : Prop where
 ok : s.Ok
 sats : ∀ x ∈ s.sats,sm8 x.1 ∧ sm8 x.2
 whos : ∀ x ∈ s.whos,sm8 x.1 ∧ sm8 x.2.1 ∧ sm8 x.2.2.1 ∧ sm8 x.2.2.2
theorem IsSm.okl {w : World} {B : Nat} {A : SmA} (h : IsSm B w A s) : SmOk s := ⟨h.ok,h.sats.2.1,h.whos.2.1⟩
theorem Zny (zs : List Int) (N i j : Nat) : 0 ≤ sqE zs N i j ∧ sqE zs N i j < 30 := by
 unfold sqE; split
 ·omega
 ·omega
theorem Zkt (zs : List Int) (N i : Nat) : sqE zs N i i = 0 := by simp [sqE]
theorem Z1r (zs : List Int) (N : Nat) : (Z2i zs N).length = N := by simp [Z2i]
theorem Z7b (zs : List Int) (h : i < N) : (Z2i zs N)[i]? = some ((List.range N).map (sqE zs N i)) := by simp [Z2i,h]
theorem Zac (zs : List Int) (N : Nat) : sqB N (Z2i zs N) = true := by
 unfold sqB; rw [decide_eq_true (Z1r zs N),Bool.true_and,Z0w]; intro i hi; rw [Z1r] at hi; rw [Z11 (Z7b zs hi)]; simp [lenB]
theorem Z2n {v low : Int} (h1 : low ≤ v) (h2 : v ≤ 1000000000) : inB_ v low = true := by simp [inB_,h1,h2]
theorem Z64 (zs : List Int) (N : Nat) : rowsB (Z2i zs N) = true := by
 unfold rowsB; rw [Z0w]; intro i hi; rw [Z1r] at hi; rw [Z11 (Z7b zs hi)]; unfold rowB; rw [Z0w]; intro k hk; have hk2 : k < N := by simpa using hk
 have e : ((List.range N).map (sqE zs N i))[k]? = some (sqE zs N i k) := by simp [hk2]
 rw [Z11 e]; have h := Zny zs N i k; unfold elB; rw [Z2n h.1 (by omega),Bool.true_and]
 by_cases e2 : i = k
 ·subst e2
  rw [Zkt]; simp
 ·simp [e2]
theorem Z65 (s : Sm) : 1 ≤ (Z10 s).length ∧ (Z10 s).length ≤ 3 := by
 unfold Z10; split
 ·exact ⟨Nat.le_refl _,by simp⟩
 ·rename_i h
  have := Z3r (s := s) (Nat.le_refl s.sats.length); have h2 : (Z0z s s.sats.length).length ≠ 0 := fun e => h (List.eq_nil_of_length_eq_zero e); omega
theorem Z4d (s : Sm) : 1 ≤ (cusOf s).length ∧ (cusOf s).length ≤ 6 := by
 unfold cusOf; split
 ·exact ⟨Nat.le_refl _,by simp⟩
 ·rename_i h
  have := Z4e (s := s) (Nat.le_refl s.whos.length); have h2 : (cusTo s s.whos.length).length ≠ 0 := fun e => h (List.eq_nil_of_length_eq_zero e); omega
theorem Zku (s : Sm) : 3 ≤ Z08 s ∧ Z08 s ≤ 10 := by
 have := Z65 s; have := Z4d s; unfold Z08; omega
theorem Z66 (wd z b : Int) (h : 1 ≤ wd ∧ wd ≤ 9) (hz : 0 ≤ z) (hb : z ≤ b) : 0 ≤ wd * z ∧ wd * z ≤ 9 * b :=
 ⟨Int.mul_nonneg (by omega) hz,Int.le_trans (Int.mul_le_mul_of_nonneg_right h.2 hz) (Int.mul_le_mul_of_nonneg_left hb (by omega))⟩
theorem Zf9 {wd : Int} (h : 1 ≤ wd ∧ wd ≤ 9) {x : Int × Int} : satB (satOf wd x) = true := by
 have := Z66 wd (x.1 % 40) 39 h (by omega) (by omega)
 unfold satB satOf; rw [Bool.and_eq_true]; exact ⟨Z2n (by simp only; omega) (by simp only; omega),Z2n (by simp only; omega) (by simp only; omega)⟩
theorem Zfa {wd : Int} {t : Bool} (h : 1 ≤ wd ∧ wd ≤ 9) {x : Pi} (hx : sm8 x.1 ∧ sm8 x.2.1 ∧ sm8 x.2.2.1 ∧ sm8 x.2.2.2) : cusB (whoOf wd t x) = true := by
 unfold sm8 at hx; have := Z66 wd x.2.2.1 255 h (by omega) (by omega)
 have hl : 1 ≤ Z3x t x.1 ∧ Z3x t x.1 ≤ 14 := by unfold Z3x; split <;> omega
 unfold cusB whoOf; simp only [Bool.and_eq_true]
 exact ⟨⟨⟨Z2n hl.1 (by omega),Z2n (by omega) (by omega)⟩,Z2n (by omega) (by omega)⟩,Z2n (by omega) (by omega)⟩
theorem Zfb (s : Sm) : ∀ x ∈ Z10 s,satB x = true := by
 intro x hx; unfold Z10 at hx; split at hx
 ·simp at hx
  subst hx; rfl
 ·unfold Z0z at hx
  rw [List.mem_map] at hx; obtain ⟨y,_,rfl⟩ := hx; exact Zf9 s.wide_le
theorem Zhy (h : SmOk s) : ∀ x ∈ cusOf s,cusB x = true := by
 intro x hx; unfold cusOf at hx; split at hx
 ·simp at hx
  subst hx; rfl
 ·unfold cusTo at hx
  rw [List.mem_map] at hx; obtain ⟨y,hy,rfl⟩ := hx; exact Zfa s.wide_le (h.whos y (List.mem_of_mem_take (List.mem_of_mem_take hy)))
theorem Zbz (h : SmOk s) : (makeI s).count = true := by
 have h1 := Z65 s; have h2 := Z4d s; have ht := h.ok.t; have hb := h.ok.b; unfold sm8 at ht hb; rw [Z62]; unfold someB makeI; simp only [Bool.and_eq_true,decide_eq_true_eq]
 omega
theorem Zfc (h : SmOk s) : (makeI s).good = true := by
 rw [Z2b]; have hw := s.wide_le; have he := h.ok.e; have ht := h.ok.tr; have hb := h.ok.br; unfold sm8 at he ht hb; have e1 := Z66 s.wide s.e 255 hw (by omega) (by omega)
 have e2 := Z66 s.wide (s.tr % 40) 39 hw (by omega) (by omega)
 have e3 := Z66 s.wide (s.br % 20) 19 hw (by omega) (by omega)
 have e1' : s.e * s.wide = s.wide * s.e := Int.mul_comm _ _; refine ⟨?_,fun i hi => ?_,fun i hi => ?_,fun i hi => ?_⟩
 ·unfold Ins.three makeI
  simp only [List.all_cons,List.all_nil,Bool.and_true,Bool.and_eq_true]
  exact ⟨Z2n (by omega) (by omega),Z2n (by omega) (by omega),Z2n (by omega) (by omega)⟩
 ·have hx : (makeI s).sats[i]? = some ((makeI s).sats[i]'hi) := List.getElem?_eq_getElem hi
  rw [Z11 hx]; exact Zfb s _ (List.mem_of_getElem? hx)
 ·have hx : (makeI s).cus[i]? = some ((makeI s).cus[i]'hi) := List.getElem?_eq_getElem hi
  rw [Z11 hx]; exact Zhy h _ (List.mem_of_getElem? hx)
 ·unfold Ins.pick
  split
  ·exact Z64 _ _
  ·exact Z64 _ _
theorem Zde (h : SmOk s) : Z0m (makeI s) = 0 := by
 have hz : (makeI s).size = true := by
  rw [Z4b,Bool.and_eq_true]; exact ⟨Zac _ _,Zac _ _⟩
 simp [Z0m,Zbz h,hz,Zfc h]
theorem Zdf {x : Ins} (h1 : x.sats.length ≤ 40) (h2 : x.cus.length ≤ 60) (h3 : x.cost.length ≤ 70) (h4 : x.time.length ≤ 70) (h5 : ∀ r ∈ x.cost,r.length ≤ 80) (h6 : ∀ r ∈ x.time,r.length ≤ 80) : x.light = true := by
 simp only [Ins.light,Bool.and_eq_true,decide_eq_true_eq,List.all_eq_true]
 exact ⟨⟨⟨⟨⟨h1,h2⟩,h3⟩,h4⟩,h5⟩,h6⟩
theorem Z7c {r : List Int} (h : r ∈ Z2i zs N) : r.length = N := by
 simp only [Z2i,List.mem_map] at h
 obtain ⟨i,_,rfl⟩ := h; simp
theorem Zc0 (s : Sm) : (makeI s).light = true := by
 have h1 := Z65 s; have h2 := Z4d s; have h3 := Zku s; refine Zdf (by show (Z10 s).length ≤ 40; omega) (by show (cusOf s).length ≤ 60; omega) (by show (Z2i s.cost (Z08 s)).length ≤ 70; rw [Z1r]; omega) (by show (Z2i s.time (Z08 s)).length ≤ 70; rw [Z1r]; omega) (fun r hr => ?_) (fun r hr => ?_)
 ·have := Z7c (zs := s.cost) (N := Z08 s) hr; omega
 ·have := Z7c (zs := s.time) (N := Z08 s) hr; omega
end Go.Proofs.YtfkommjlmolniaaGreatDoor
end
section

namespace Go.Proofs.YtfkommjlmolniaaGreatDoor
set_option maxHeartbeats 16000000
set_option maxRecDepth 100000
open Go.Lib (hid)
open Go.RowKit
theorem Z21 : sm8 0 := ⟨by decide,by decide⟩
def smallZ : Sm := ⟨0,0,0,0,0,[],[],[],[],false,false⟩
def Zhu : SmA := ⟨none,0,none,0,none,0,0,none,0,0⟩
theorem Zhv (w : World) : IsSm w.heap.size w Zhu smallZ :=
 ⟨⟨rfl,fun x hx => (by simp [smallZ] at hx),.inl rfl⟩,⟨rfl,fun x hx => (by simp [smallZ] at hx),.inl rfl⟩,⟨rfl,fun x hx => (by simp [smallZ] at hx),.inl rfl⟩,⟨rfl,fun x hx => (by simp [smallZ] at hx),.inl rfl⟩,⟨Z21,Z21,Z21,Z21,Z21⟩,by decide,by decide⟩
theorem Zhw : SmOk smallZ := ⟨⟨Z21,Z21,Z21,Z21,Z21⟩,fun x hx => (by simp [smallZ] at hx),fun x hx => (by simp [smallZ] at hx)⟩
theorem Zby (w : World) : Calls Tryz.prog 16 #[] w fun e w' => (∃ A2,e = .returned (.agg (insC A2 (makeI smallZ))) ∧ ∃ C D VK VT,OwnIns (w.heap.size + 1 + 3) w' A2 (makeI smallZ) (Z08 smallZ) C D VK VT (sqE smallZ.cost (Z08 smallZ)) (sqE smallZ.time (Z08 smallZ))) ∧ Below w.heap.size w w' := by
 have HW := hid (heap_alloc_new w (.cells #[.int .i64 0,.int .i64 0,.int .i64 0,.int .i64 0,.int .i64 0,.slice none 0 0,.slice none 0 0,.slice none 0 0,.slice none 0 0] 34)); have HB0 := hid (Z0q w (.cells #[.int .i64 0,.int .i64 0,.int .i64 0,.int .i64 0,.int .i64 0,.slice none 0 0,.slice none 0 0,.slice none 0 0,.slice none 0 0] 34)); have hs0 : (w.alloc (.cells #[.int .i64 0,.int .i64 0,.int .i64 0,.int .i64 0,.int .i64 0,.slice none 0 0,.slice none 0 0,.slice none 0 0,.slice none 0 0] 34)).heap.size = w.heap.size + 1 := by simp
 go_enter Tryz.func16,Tryz.ntmps16
 go_wp2_with fail
 refine (Z8j Zhu smallZ _ (Zhv _)).mono ?_; rintro e w2 ⟨⟨A2,rfl,C,D,VK,VT,hown⟩,hb⟩; rw [hs0] at hown hb; have HR := hid ((hb.block _ (Nat.lt_succ_self _)).trans HW.out); have HO := hid hown; have HB2 := hid (HB0.out.trans (hb.mono (Nat.le_succ _))); clear hown hb hs0 HW HB0; obtain ⟨x0,hx0⟩ : ∃ x0,makeI smallZ = x0 := ⟨_,rfl⟩; rw [hx0] at HO ⊢; have HX0 := hid hx0; clear hx0; obtain ⟨n0,n1,n2,n3,n4,n5,n6,n7,n8,nf⟩ := Z1f HR.out; unfold insC; go_wp2_with fail
 have hb9 := Z7f (y0 := .int .i64 x0.en) (y1 := .int .i64 x0.tm) (y2 := .int .i64 x0.tr) (y3 := .int .i64 x0.bm) (y4 := .int .i64 x0.br) (y5 := .slice A2.sa x0.sats.length A2.sc) (y6 := .slice A2.ca x0.cus.length A2.cc) (y7 := .slice A2.ka x0.cost.length A2.kc) (y8 := .slice A2.ta x0.time.length A2.tc) HR.out; obtain ⟨z0,z1,z2,z3,z4,z5,z6,z7,z8,_⟩ := Z1f hb9; unfold Z7e at z0 z1 z2 z3 z4 z5 z6 z7 z8; have ho9 := (Z7g (r := w.heap.size) (y0 := .int .i64 x0.en) (y1 := .int .i64 x0.tm) (y2 := .int .i64 x0.tr) (y3 := .int .i64 x0.bm) (y4 := .int .i64 x0.br) (y5 := .slice A2.sa x0.sats.length A2.sc) (y6 := .slice A2.ca x0.cus.length A2.cc) (y7 := .slice A2.ka x0.cost.length A2.kc) (y8 := .slice A2.ta x0.time.length A2.tc) HO.out (by omega))
 refine bodyPost_ret (v := .agg (insC A2 x0)) ?_ rfl ⟨⟨A2,by rw [HX0.out],C,D,VK,VT,by rw [HX0.out]; exact ho9⟩,Z53 HB2.out (Nat.le_refl _)⟩
 unfold insC; clear ho9 n0 n1 n2 n3 n4 n5 n6 n7 n8 nf hb9; simp only [results,Tryz.results16]
 simp [go_sem,z0,z1,z2,z3,z4,z5,z6,z7,z8]
theorem Zn6 (w : World) : Calls Tryz.prog 16 #[] w fun e w' => (∃ A2,e = .returned (.agg (insC A2 (makeI smallZ))) ∧ IsIns w'.heap.size w' A2 (makeI smallZ)) ∧ Below w.heap.size w w' :=
 (Zby w).mono fun _ _ ⟨⟨A2,h1,_,_,_,_,h2⟩,h3⟩ => ⟨⟨A2,h1,h2.is_⟩,h3⟩
def twoS : Ins := ⟨0,0,0,0,0,[(0,0),(0,0)],[],[],[]⟩
def twoA (g : Nat) : InA := ⟨some ⟨g,0,none⟩,2,none,0,none,0,none,0⟩
theorem Zkk : Z0m twoS = 9 := by decide
theorem Zf6 : twoS.light = true := by decide
theorem Zn7 (w : World) : IsIns (w.alloc (.cells #[.int .i64 0,.int .i64 0,.int .i64 0,.int .i64 0] 51)).heap.size (w.alloc (.cells #[.int .i64 0,.int .i64 0,.int .i64 0,.int .i64 0] 51)) (twoA w.heap.size) twoS := by
 refine ⟨⟨rfl,.inr ⟨w.heap.size,0,rfl,by simp,fun k x hk => ?_⟩⟩,⟨rfl,.inl rfl⟩,⟨rfl,.inl rfl⟩,⟨rfl,.inl rfl⟩⟩
 match k,hk with
 | 0,hk => simp [twoS] at hk; subst hk; simp
 | 1,hk => simp [twoS] at hk; subst hk; simp
theorem Zkl (w : World) : (Instr.makeSlice 30 (.int .i64 2) (.int .i64 2)).run Tryz.prog w = .ok (.slice (some ⟨w.heap.size,0,none⟩) 2 2) (w.alloc (.cells #[.int .i64 0,.int .i64 0,.int .i64 0,.int .i64 0] 51)) := by
 obtain ⟨i,hi,hz,hs,hb⟩ := info_parts Zdd; have h := run_make w 30 51 i _ Tryz.underlying30 hi hz .i64 .i64 2 2 (by omega) (by omega) (by rw [hb]; decide) (by decide)
 rw [hs,show madeCells (Value.agg #[Value.int .i64 0,Value.int .i64 0]).cells (Int.toNat 2 * 2) = #[Value.int .i64 0,.int .i64 0,.int .i64 0,.int .i64 0] from by kernel_rfl] at h
 exact h
theorem Zf7 (w : World) : Calls Tryz.prog 31 #[] w fun e w' => e = .returned (.bool true) ∧ Below w.heap.size w w' := by
 have hmk := Zkl; have HB0 := hid (Z0q w (.cells #[.int .i64 0,.int .i64 0,.int .i64 0,.int .i64 0] 51)); have HX1 := hid (XBox.make HB0.out (twoA w.heap.size) twoS); have HI1 := hid (IsIns.mono ((Zn7 w).later (Z0q (w.alloc (.cells #[.int .i64 0,.int .i64 0,.int .i64 0,.int .i64 0] 51)) (.cells (insC (twoA w.heap.size) twoS) 34))) (Nat.le_of_lt HX1.out.lt)); go_enter Tryz.func31,Tryz.ntmps31
 go_wp2_with fail
 go_at_call 49
 refine (Z13 (twoA w.heap.size) twoS 1 _ (by decide)).mono ?_
 rw [show wrap64 (1 + (twoS.sats.length : Int) + 1) = 4 from by first | kernel_rfl | (simp [twoS,wrap64])]
 rintro e w2 ⟨rfl,hb2⟩; have HX2 := hid (HX1.out.later hb2); have HI2 := hid ((HI1.out.later hb2).mono hb2.size); have HZ := hid (show (w.alloc (.cells #[.int .i64 0,.int .i64 0,.int .i64 0,.int .i64 0] 51)).heap.size = w.heap.size + 1 from by simp)
 clear hb2; have hz := HZ.out; rw [hz] at HX2; clear hz; obtain ⟨k0,k1,k2,k3,k4,k5,k6,k7,k8⟩ := HX2.out.cells; clear HX1 HI1 HB0 hmk; go_wp2_with fail
 go_at_call 14
 refine (Zaj (twoA w.heap.size) twoS _ HI2.out Zf6).mono ?_; rw [Zkk]; rintro e w3 ⟨rfl,hb3⟩; have HB3 := hid (HX2.out.later hb3).below; clear hb3 k0 k1 k2 k3 k4 k5 k6 k7 k8; go_wp2_with fail
 go_at_call 16
 refine (Zn6 _).mono ?_; rintro e w4 ⟨⟨A2,rfl,hi4⟩,hb4⟩; have HI4 := hid hi4; have HB4 := hid (HB3.out.trans (hb4.mono HB3.out.size)); clear hi4 hb4; go_wp2_with fail
 go_at_call 14
 refine (Zaj A2 (makeI smallZ) _ HI4.out (Zc0 _)).mono ?_; rw [Zde Zhw]; rintro e w5 ⟨rfl,hb5⟩; have HB5 := hid (HB4.out.trans (hb5.mono HB4.out.size)); clear hb5; go_wp2_with fail
 go_ret
 exact ⟨rfl,HB5.out⟩
end Go.Proofs.YtfkommjlmolniaaGreatDoor
end
