/- Joined: IMakeOk, IAwake. -/
import Derived.Test.YtfkommjlmolniaaGreatDoorGr18
import Derived.Test.YtfkommjlmolniaaGreatDoorGr16
import Derived.Test.YtfkommjlmolniaaGreatDoorIMake
import Derived.Laws.MakeOwn
set_option linter.unusedVariables false
section

namespace Go.Proofs.YtfkommjlmolniaaGreatDoor
open Go.RowKit
variable {s : Sm} {zs : List Int} {N i k : Nat}
structure SmOk (s : Sm) : Prop where
 ok : s.Ok
 sats : ∀ x ∈ s.sats,sm8 x.1 ∧ sm8 x.2
 whos : ∀ x ∈ s.whos,sm8 x.1 ∧ sm8 x.2.1 ∧ sm8 x.2.2.1 ∧ sm8 x.2.2.2
theorem IsSm.okl {w : World} {B : Nat} {A : SmA} (h : IsSm B w A s) : SmOk s := ⟨h.ok,h.sats.2.1,h.whos.2.1⟩
theorem sqE_in (zs : List Int) (N i j : Nat) : 0 ≤ sqE zs N i j ∧ sqE zs N i j < 30 := by
 unfold sqE; split
 ·omega
 ·omega
theorem sqE_diag (zs : List Int) (N i : Nat) : sqE zs N i i = 0 := by simp [sqE]
theorem sqRows_length (zs : List Int) (N : Nat) : (sqRows zs N).length = N := by simp [sqRows]
theorem sqRows_get (zs : List Int) (h : i < N) : (sqRows zs N)[i]? = some ((List.range N).map (sqE zs N i)) := by simp [sqRows,h]
theorem sqRows_sq (zs : List Int) (N : Nat) : sqB N (sqRows zs N) = true := by
 unfold sqB; rw [decide_eq_true (sqRows_length zs N),Bool.true_and,allR_true]; intro i hi; rw [sqRows_length] at hi; rw [getD_ofN (sqRows_get zs hi)]; simp [lenB]
theorem inB_yes {v low : Int} (h1 : low ≤ v) (h2 : v ≤ 1000000000) : inB_ v low = true := by simp [inB_,h1,h2]
theorem sqRows_good (zs : List Int) (N : Nat) : rowsB (sqRows zs N) = true := by
 unfold rowsB; rw [allR_true]; intro i hi; rw [sqRows_length] at hi; rw [getD_ofN (sqRows_get zs hi)]; unfold rowB; rw [allR_true]; intro k hk; have hk2 : k < N := by simpa using hk
 have e : ((List.range N).map (sqE zs N i))[k]? = some (sqE zs N i k) := by simp [hk2]
 rw [getD_ofN e]; have h := sqE_in zs N i k; unfold elB; rw [inB_yes h.1 (by omega),Bool.true_and]
 by_cases e2 : i = k
 ·subst e2
  rw [sqE_diag]; simp
 ·simp [e2]
theorem satsOf_le (s : Sm) : 1 ≤ (satsOf s).length ∧ (satsOf s).length ≤ 3 := by
 unfold satsOf; split
 ·exact ⟨Nat.le_refl _,by simp⟩
 ·rename_i h
  have := satsTo_len (s := s) (Nat.le_refl s.sats.length); have h2 : (satsTo s s.sats.length).length ≠ 0 := fun e => h (List.eq_nil_of_length_eq_zero e); omega
theorem cusOf_le (s : Sm) : 1 ≤ (cusOf s).length ∧ (cusOf s).length ≤ 6 := by
 unfold cusOf; split
 ·exact ⟨Nat.le_refl _,by simp⟩
 ·rename_i h
  have := cusTo_len (s := s) (Nat.le_refl s.whos.length); have h2 : (cusTo s s.whos.length).length ≠ 0 := fun e => h (List.eq_nil_of_length_eq_zero e); omega
theorem nodes_le (s : Sm) : 3 ≤ nodesOf s ∧ nodesOf s ≤ 10 := by
 have := satsOf_le s; have := cusOf_le s; unfold nodesOf; omega
theorem wide_in (wd z b : Int) (h : 1 ≤ wd ∧ wd ≤ 9) (hz : 0 ≤ z) (hb : z ≤ b) : 0 ≤ wd * z ∧ wd * z ≤ 9 * b :=
 ⟨Int.mul_nonneg (by omega) hz,Int.le_trans (Int.mul_le_mul_of_nonneg_right h.2 hz) (Int.mul_le_mul_of_nonneg_left hb (by omega))⟩
theorem satOf_good {wd : Int} (h : 1 ≤ wd ∧ wd ≤ 9) {x : Int × Int} : satB (satOf wd x) = true := by
 have := wide_in wd (x.1 % 40) 39 h (by omega) (by omega)
 unfold satB satOf; rw [Bool.and_eq_true]; exact ⟨inB_yes (by simp only; omega) (by simp only; omega),inB_yes (by simp only; omega) (by simp only; omega)⟩
theorem whoOf_good {wd : Int} {t : Bool} (h : 1 ≤ wd ∧ wd ≤ 9) {x : Pi} (hx : sm8 x.1 ∧ sm8 x.2.1 ∧ sm8 x.2.2.1 ∧ sm8 x.2.2.2) : cusB (whoOf wd t x) = true := by
 unfold sm8 at hx; have := wide_in wd x.2.2.1 255 h (by omega) (by omega)
 have hl : 1 ≤ loadOf t x.1 ∧ loadOf t x.1 ≤ 14 := by unfold loadOf; split <;> omega
 unfold cusB whoOf; simp only [Bool.and_eq_true]
 exact ⟨⟨⟨inB_yes hl.1 (by omega),inB_yes (by omega) (by omega)⟩,inB_yes (by omega) (by omega)⟩,inB_yes (by omega) (by omega)⟩
theorem mem_satsOf (s : Sm) : ∀ x ∈ satsOf s,satB x = true := by
 intro x hx; unfold satsOf at hx; split at hx
 ·simp at hx
  subst hx; rfl
 ·unfold satsTo at hx
  rw [List.mem_map] at hx; obtain ⟨y,_,rfl⟩ := hx; exact satOf_good s.wide_le
theorem mem_cusOf (h : SmOk s) : ∀ x ∈ cusOf s,cusB x = true := by
 intro x hx; unfold cusOf at hx; split at hx
 ·simp at hx
  subst hx; rfl
 ·unfold cusTo at hx
  rw [List.mem_map] at hx; obtain ⟨y,hy,rfl⟩ := hx; exact whoOf_good s.wide_le (h.whos y (List.mem_of_mem_take (List.mem_of_mem_take hy)))
theorem makeI_count (h : SmOk s) : (makeI s).count = true := by
 have h1 := satsOf_le s; have h2 := cusOf_le s; have ht := h.ok.t; have hb := h.ok.b; unfold sm8 at ht hb; rw [count_split]; unfold someB makeI; simp only [Bool.and_eq_true,decide_eq_true_eq]
 omega
theorem makeI_good (h : SmOk s) : (makeI s).good = true := by
 rw [good_parts]; have hw := s.wide_le; have he := h.ok.e; have ht := h.ok.tr; have hb := h.ok.br; unfold sm8 at he ht hb; have e1 := wide_in s.wide s.e 255 hw (by omega) (by omega)
 have e2 := wide_in s.wide (s.tr % 40) 39 hw (by omega) (by omega)
 have e3 := wide_in s.wide (s.br % 20) 19 hw (by omega) (by omega)
 have e1' : s.e * s.wide = s.wide * s.e := Int.mul_comm _ _; refine ⟨?_,fun i hi => ?_,fun i hi => ?_,fun i hi => ?_⟩
 ·unfold Ins.three makeI
  simp only [List.all_cons,List.all_nil,Bool.and_true,Bool.and_eq_true]
  exact ⟨inB_yes (by omega) (by omega),inB_yes (by omega) (by omega),inB_yes (by omega) (by omega)⟩
 ·have hx : (makeI s).sats[i]? = some ((makeI s).sats[i]'hi) := List.getElem?_eq_getElem hi
  rw [getD_ofN hx]; exact mem_satsOf s _ (List.mem_of_getElem? hx)
 ·have hx : (makeI s).cus[i]? = some ((makeI s).cus[i]'hi) := List.getElem?_eq_getElem hi
  rw [getD_ofN hx]; exact mem_cusOf h _ (List.mem_of_getElem? hx)
 ·unfold Ins.pick
  split
  ·exact sqRows_good _ _
  ·exact sqRows_good _ _
theorem makeI_ok (h : SmOk s) : instErr (makeI s) = 0 := by
 have hz : (makeI s).size = true := by
  rw [size_pick,Bool.and_eq_true]; exact ⟨sqRows_sq _ _,sqRows_sq _ _⟩
 simp [instErr,makeI_count h,hz,makeI_good h]
theorem light_of {x : Ins} (h1 : x.sats.length ≤ 40) (h2 : x.cus.length ≤ 60) (h3 : x.cost.length ≤ 70) (h4 : x.time.length ≤ 70) (h5 : ∀ r ∈ x.cost,r.length ≤ 80) (h6 : ∀ r ∈ x.time,r.length ≤ 80) : x.light = true := by
 simp only [Ins.light,Bool.and_eq_true,decide_eq_true_eq,List.all_eq_true]
 exact ⟨⟨⟨⟨⟨h1,h2⟩,h3⟩,h4⟩,h5⟩,h6⟩
theorem sqRows_mem {r : List Int} (h : r ∈ sqRows zs N) : r.length = N := by
 simp only [sqRows,List.mem_map] at h
 obtain ⟨i,_,rfl⟩ := h; simp
theorem makeI_light (s : Sm) : (makeI s).light = true := by
 have h1 := satsOf_le s; have h2 := cusOf_le s; have h3 := nodes_le s; refine light_of (by show (satsOf s).length ≤ 40; omega) (by show (cusOf s).length ≤ 60; omega) (by show (sqRows s.cost (nodesOf s)).length ≤ 70; rw [sqRows_length]; omega) (by show (sqRows s.time (nodesOf s)).length ≤ 70; rw [sqRows_length]; omega) (fun r hr => ?_) (fun r hr => ?_)
 ·have := sqRows_mem (zs := s.cost) (N := nodesOf s) hr; omega
 ·have := sqRows_mem (zs := s.time) (N := nodesOf s) hr; omega
end Go.Proofs.YtfkommjlmolniaaGreatDoor
end
section

namespace Go.Proofs.YtfkommjlmolniaaGreatDoor
set_option maxHeartbeats 16000000
set_option maxRecDepth 100000
open Go.Lib (hid)
open Go.RowKit
theorem sm8_zero : sm8 0 := ⟨by decide,by decide⟩
def smallZ : Sm := ⟨0,0,0,0,0,[],[],[],[],false,false⟩
def smallZA : SmA := ⟨none,0,none,0,none,0,0,none,0,0⟩
theorem smallZ_is (w : World) : IsSm w.heap.size w smallZA smallZ :=
 ⟨⟨rfl,fun x hx => (by simp [smallZ] at hx),.inl rfl⟩,⟨rfl,fun x hx => (by simp [smallZ] at hx),.inl rfl⟩,⟨rfl,fun x hx => (by simp [smallZ] at hx),.inl rfl⟩,⟨rfl,fun x hx => (by simp [smallZ] at hx),.inl rfl⟩,⟨sm8_zero,sm8_zero,sm8_zero,sm8_zero,sm8_zero⟩,by decide,by decide⟩
theorem smallZ_ok : SmOk smallZ := ⟨⟨sm8_zero,sm8_zero,sm8_zero,sm8_zero,sm8_zero⟩,fun x hx => (by simp [smallZ] at hx),fun x hx => (by simp [smallZ] at hx)⟩
theorem one_own (w : World) : Calls Tryz.prog 16 #[] w fun e w' => (∃ A2,e = .returned (.agg (insC A2 (makeI smallZ))) ∧ ∃ C D VK VT,OwnIns (w.heap.size + 1 + 3) w' A2 (makeI smallZ) (nodesOf smallZ) C D VK VT (sqE smallZ.cost (nodesOf smallZ)) (sqE smallZ.time (nodesOf smallZ))) ∧ Below w.heap.size w w' := by
 have HW := hid (heap_alloc_new w (.cells #[.int .i64 0,.int .i64 0,.int .i64 0,.int .i64 0,.int .i64 0,.slice none 0 0,.slice none 0 0,.slice none 0 0,.slice none 0 0] 34)); have HB0 := hid (below1 w (.cells #[.int .i64 0,.int .i64 0,.int .i64 0,.int .i64 0,.int .i64 0,.slice none 0 0,.slice none 0 0,.slice none 0 0,.slice none 0 0] 34)); have hs0 : (w.alloc (.cells #[.int .i64 0,.int .i64 0,.int .i64 0,.int .i64 0,.int .i64 0,.slice none 0 0,.slice none 0 0,.slice none 0 0,.slice none 0 0] 34)).heap.size = w.heap.size + 1 := by simp
 go_enter Tryz.func16,Tryz.ntmps16
 go_wp2_with fail
 refine (make_any smallZA smallZ _ (smallZ_is _)).mono ?_; rintro e w2 ⟨⟨A2,rfl,C,D,VK,VT,hown⟩,hb⟩; rw [hs0] at hown hb; have HR := hid ((hb.block _ (Nat.lt_succ_self _)).trans HW.out); have HO := hid hown; have HB2 := hid (HB0.out.trans (hb.mono (Nat.le_succ _))); clear hown hb hs0 HW HB0; obtain ⟨x0,hx0⟩ : ∃ x0,makeI smallZ = x0 := ⟨_,rfl⟩; rw [hx0] at HO ⊢; have HX0 := hid hx0; clear hx0; obtain ⟨n0,n1,n2,n3,n4,n5,n6,n7,n8,nf⟩ := cells9 HR.out; unfold insC; go_wp2_with fail
 have hb9 := storeI_blk (y0 := .int .i64 x0.en) (y1 := .int .i64 x0.tm) (y2 := .int .i64 x0.tr) (y3 := .int .i64 x0.bm) (y4 := .int .i64 x0.br) (y5 := .slice A2.sa x0.sats.length A2.sc) (y6 := .slice A2.ca x0.cus.length A2.cc) (y7 := .slice A2.ka x0.cost.length A2.kc) (y8 := .slice A2.ta x0.time.length A2.tc) HR.out; obtain ⟨z0,z1,z2,z3,z4,z5,z6,z7,z8,_⟩ := cells9 hb9; unfold storeI at z0 z1 z2 z3 z4 z5 z6 z7 z8; have ho9 := (storeI_own (r := w.heap.size) (y0 := .int .i64 x0.en) (y1 := .int .i64 x0.tm) (y2 := .int .i64 x0.tr) (y3 := .int .i64 x0.bm) (y4 := .int .i64 x0.br) (y5 := .slice A2.sa x0.sats.length A2.sc) (y6 := .slice A2.ca x0.cus.length A2.cc) (y7 := .slice A2.ka x0.cost.length A2.kc) (y8 := .slice A2.ta x0.time.length A2.tc) HO.out (by omega))
 refine bodyPost_ret (v := .agg (insC A2 x0)) ?_ rfl ⟨⟨A2,by rw [HX0.out],C,D,VK,VT,by rw [HX0.out]; exact ho9⟩,storeI_below HB2.out (Nat.le_refl _)⟩
 unfold insC; clear ho9 n0 n1 n2 n3 n4 n5 n6 n7 n8 nf hb9; simp only [results,Tryz.results16]
 simp [go_sem,z0,z1,z2,z3,z4,z5,z6,z7,z8]
theorem one_any (w : World) : Calls Tryz.prog 16 #[] w fun e w' => (∃ A2,e = .returned (.agg (insC A2 (makeI smallZ))) ∧ IsIns w'.heap.size w' A2 (makeI smallZ)) ∧ Below w.heap.size w w' :=
 (one_own w).mono fun _ _ ⟨⟨A2,h1,_,_,_,_,h2⟩,h3⟩ => ⟨⟨A2,h1,h2.is_⟩,h3⟩
def twoS : Ins := ⟨0,0,0,0,0,[(0,0),(0,0)],[],[],[]⟩
def twoA (g : Nat) : InA := ⟨some ⟨g,0,none⟩,2,none,0,none,0,none,0⟩
theorem twoS_err : instErr twoS = 9 := by decide
theorem twoS_light : twoS.light = true := by decide
theorem twoS_is (w : World) : IsIns (w.alloc (.cells #[.int .i64 0,.int .i64 0,.int .i64 0,.int .i64 0] 51)).heap.size (w.alloc (.cells #[.int .i64 0,.int .i64 0,.int .i64 0,.int .i64 0] 51)) (twoA w.heap.size) twoS := by
 refine ⟨⟨rfl,.inr ⟨w.heap.size,0,rfl,by simp,fun k x hk => ?_⟩⟩,⟨rfl,.inl rfl⟩,⟨rfl,.inl rfl⟩,⟨rfl,.inl rfl⟩⟩
 match k,hk with
 | 0,hk => simp [twoS] at hk; subst hk; simp
 | 1,hk => simp [twoS] at hk; subst hk; simp
theorem make_two (w : World) : (Instr.makeSlice 30 (.int .i64 2) (.int .i64 2)).run Tryz.prog w = .ok (.slice (some ⟨w.heap.size,0,none⟩) 2 2) (w.alloc (.cells #[.int .i64 0,.int .i64 0,.int .i64 0,.int .i64 0] 51)) := by
 obtain ⟨i,hi,hz,hs,hb⟩ := info_parts infoSatM; have h := run_make w 30 51 i _ Tryz.underlying30 hi hz .i64 .i64 2 2 (by omega) (by omega) (by rw [hb]; decide) (by decide)
 rw [hs,show madeCells (Value.agg #[Value.int .i64 0,Value.int .i64 0]).cells (Int.toNat 2 * 2) = #[Value.int .i64 0,.int .i64 0,.int .i64 0,.int .i64 0] from by kernel_rfl] at h
 exact h
theorem inst_awake (w : World) : Calls Tryz.prog 31 #[] w fun e w' => e = .returned (.bool true) ∧ Below w.heap.size w w' := by
 have hmk := make_two; have HB0 := hid (below1 w (.cells #[.int .i64 0,.int .i64 0,.int .i64 0,.int .i64 0] 51)); have HX1 := hid (XBox.make HB0.out (twoA w.heap.size) twoS); have HI1 := hid (IsIns.mono ((twoS_is w).later (below1 (w.alloc (.cells #[.int .i64 0,.int .i64 0,.int .i64 0,.int .i64 0] 51)) (.cells (insC (twoA w.heap.size) twoS) 34))) (Nat.le_of_lt HX1.out.lt)); go_enter Tryz.func31,Tryz.ntmps31
 go_wp2_with fail
 go_at_call 49
 refine (customer_any (twoA w.heap.size) twoS 1 _ (by decide)).mono ?_
 rw [show wrap64 (1 + (twoS.sats.length : Int) + 1) = 4 from by first | kernel_rfl | (simp [twoS,wrap64])]
 rintro e w2 ⟨rfl,hb2⟩; have HX2 := hid (HX1.out.later hb2); have HI2 := hid ((HI1.out.later hb2).mono hb2.size); have HZ := hid (show (w.alloc (.cells #[.int .i64 0,.int .i64 0,.int .i64 0,.int .i64 0] 51)).heap.size = w.heap.size + 1 from by simp)
 clear hb2; have hz := HZ.out; rw [hz] at HX2; clear hz; obtain ⟨k0,k1,k2,k3,k4,k5,k6,k7,k8⟩ := HX2.out.cells; clear HX1 HI1 HB0 hmk; go_wp2_with fail
 go_at_call 14
 refine (check_any (twoA w.heap.size) twoS _ HI2.out twoS_light).mono ?_; rw [twoS_err]; rintro e w3 ⟨rfl,hb3⟩; have HB3 := hid (HX2.out.later hb3).below; clear hb3 k0 k1 k2 k3 k4 k5 k6 k7 k8; go_wp2_with fail
 go_at_call 16
 refine (one_any _).mono ?_; rintro e w4 ⟨⟨A2,rfl,hi4⟩,hb4⟩; have HI4 := hid hi4; have HB4 := hid (HB3.out.trans (hb4.mono HB3.out.size)); clear hi4 hb4; go_wp2_with fail
 go_at_call 14
 refine (check_any A2 (makeI smallZ) _ HI4.out (makeI_light _)).mono ?_; rw [makeI_ok smallZ_ok]; rintro e w5 ⟨rfl,hb5⟩; have HB5 := hid (HB4.out.trans (hb5.mono HB4.out.size)); clear hb5; go_wp2_with fail
 go_ret
 exact ⟨rfl,HB5.out⟩
end Go.Proofs.YtfkommjlmolniaaGreatDoor
end
