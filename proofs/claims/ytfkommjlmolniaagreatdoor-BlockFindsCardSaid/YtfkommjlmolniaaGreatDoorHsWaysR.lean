/- Joined: WaysR. -/
import Derived.Test.YtfkommjlmolniaaGreatDoorHd12
import Derived.Deep.RegionHeld3
import Derived.LoopTactic
import Derived.Maps.RangeWalk
import Derived.Test.YtfkommjlmolniaaGreatDoorHd6
set_option linter.unusedVariables false
section

namespace Go.Proofs.YtfkommjlmolniaaGreatDoor
set_option maxHeartbeats 16000000
set_option maxRecDepth 100000
open Go.Lib (hid)
open Go.RowKit
variable {w w2 wr : World} {T : Nat → Nat → Int} {N : Nat}
theorem Z6q {i j : Nat} (hi : i < N) (hN : N ≤ 100) (hj : j ≤ N) : (Z1g T N i ++ Z28 T i j).length ≤ 10100 := by
 have h1 := Z7z (T := T) (N := N) (i := i); have h2 := Z7y (T := T) (i := i) (j := j); have h3 : i * N ≤ 100 * 100 := Nat.mul_le_mul (by omega) hN
 rw [List.length_append]; omega
theorem Z58 (F : Nat) (cs : Array Value) (HF : ∀ (args : Array Value) (W : World),(callFunc F args).run Tryz.prog W = .ok (.enter F args) W) (hN : N ≤ 100) (T : Nat → Nat → Int) (w : World)
  (HT : ∀ W,Below w.heap.size w W → ∀ i k : Nat,i < N → k < N → i ≠ k → Calls Tryz.prog F (#[.int .i64 (i : Int),.int .i64 (k : Int)] ++ cs) W fun e w' => e = .returned (.int .i64 (T i k)) ∧ Below W.heap.size W w') :
  Calls Tryz.prog 47 #[.int .i64 (N : Int),.func (.func F) #[] cs] w fun e w' => ∃ lv,e = .returned (.agg #[.int .i64 (N : Int),lv]) ∧ w'.ownsRow w.heap.size 121 3 lv (Z1g T N N).length (flatA (Z1g T N N)) ∧ Below w.heap.size w w' := by
 obtain ⟨i0,hi0,hz0,hz1,hz2⟩ := info_parts Zl6; have HTT := hid HT; clear HT; have HG0 : Hid (MakeW w ((w.alloc (.cells #[.int .i64 0,.slice none 0 0] 95)).alloc (.cells #[.int .i64 (N : Int),.slice none 0 0] 95)) w.heap.size (w.heap.size + 1) (N : Int) (.slice none 0 0) (Z1g T N 0)) :=
  hid ⟨((Below.refl _ w).alloc (Nat.le_refl _) _).alloc (by simp) _,heap_alloc2_old _ _ _,heap_alloc2_new _ _ _,World.ownsRow_nil _ _ _ 3,Nat.le_refl _,by omega⟩
 go_enter Tryz.func47,Tryz.ntmps47
 go_wp2_with fail
 obtain ⟨g,hg⟩ : ∃ g,g = w.heap.size + 1 := ⟨_,rfl⟩; rw [← hg] at HG0; rw [← hg]; have HGG := hid hg; clear hg; go_loopw [11] (fun iv wr => ∃ (i : Nat) (lv : Value),iv = .int .i64 (i : Int) ∧ i ≤ N ∧ Hid (MakeW w wr w.heap.size g (N : Int) lv (Z1g T N i))) (fun iv _ => N - (intOf iv).toNat)
 case atStart => exact ⟨0,_,rfl,Nat.zero_le _,HG0⟩
 case round =>
  obtain ⟨i,lv,rfl,hi,HX⟩ := hrel; clear HG0; by_cases hlt : i < N
  ·have HY0 : Hid (MakeW w wr w.heap.size g (N : Int) lv (Z1g T N i ++ Z28 T i 0)) := hid (HX.out.turn (by rw [Zcm,List.append_nil]))
   clear HX; go_wp2_with fail
   go_loopw [15] (fun jv wr => ∃ (j : Nat) (lv : Value),jv = .int .i64 (j : Int) ∧ j ≤ N ∧ Hid (MakeW w wr w.heap.size g (N : Int) lv (Z1g T N i ++ Z28 T i j))) (fun jv _ => N - (intOf jv).toNat)
   case atStart => exact ⟨0,_,rfl,Nat.zero_le _,HY0⟩
   case round =>
    obtain ⟨j,lv,rfl,hj,HX⟩ := hrel; clear HY0; by_cases hltj : j < N
    ·by_cases hne : i = j
     ·subst hne
      have HN := hid (Zcn (T := T) (i := i)); go_wp2_with fail
      go_roundw
      case rel => exact ⟨i + 1,_,by go_num,by omega,hid (HX.out.turn (by rw [HN.out]))⟩
      case measure => simp [intOf]; omega
     ·have HN := hid (Zco (T := T) hne)
      have hneI : ¬ (i : Int) = (j : Int) := by omega
      have hneb : ((i : Int) != (j : Int)) = true := by simpa using hneI
      obtain ⟨va,vc,hv⟩ := Z04 HX.out.row; subst hv; have hml := Z6q (T := T) (j := j) hlt hN hj; obtain ⟨xs,hxs⟩ : ∃ xs,Z1g T N i ++ Z28 T i j = xs := ⟨_,rfl⟩; have HXS := hid hxs; rw [hxs] at HX hml; have HC := hid (HTT.out wr.drew HX.out.below.drew i j hlt hltj hne); obtain ⟨t,ht⟩ : ∃ t,T i j = t := ⟨_,rfl⟩; have HTI := hid ht; rw [ht] at HC; have HX0 := hid (HX.out.later ((Below.refl wr.heap.size wr).drew)); have a0 := HX0.out.c1; clear hxs ht hne hneI HX; go_wp2_with fail
      refine wp_region_held_drew (S := fun _ => True) (by kernel_rfl) trivial (fun hHeld => ?_)
      refine stpT 0 hHeld ?_ (y := fun Wz hWz => by go_simp; (try with_reducible rfl))
      try go_frame
      refine stpT 2 hHeld ?_ (y := fun Wz hWz => by go_simp; (try with_reducible rfl))
      try go_frame
      refine stpT 3 hHeld ?_ (y := fun Wz hWz => by go_simp; (try with_reducible rfl))
      try go_frame
      refine stpT 4 hHeld ?_ (y := fun Wz hWz => by go_simp; (try with_reducible rfl))
      try go_frame
      refine stpT 5 hHeld ?_ (y := fun Wz hWz => by go_simp; (try with_reducible rfl))
      try go_frame
      refine stpT 6 hHeld ?_ (y := fun Wz hWz => by go_simp; (try with_reducible rfl))
      try go_frame
      refine wpAnyH_ready (rs := [1,7]) (by kernel_rfl) (by simp) ?_
      refine AllReadyH.cons rfl (fun K hK => ?_) (AllReadyH.cons rfl (fun K hK => ?_) AllReadyH.nil)
      ·go_simp
       refine hK.out _ _ ?_ (fun hHeld => ?_)
       ·exact trivial
       clear hK K; try go_frame
       refine stpR 7 (fun K hK => ?_); go_simp; refine HC.out.mono ?_; rintro e w3 ⟨rfl,hb3⟩; have HX3 := hid (HX0.out.later hb3); have a3 := HX3.out.c1; clear hb3 HC; refine hK.out _ _ ?_ (fun hHeld => ?_)
       ·exact trivial
       clear hK K; try go_frame
       refine stpT 8 hHeld ?_ (y := fun Wz hWz => by go_simp; (try with_reducible rfl))
       try go_frame
       refine stpR 9 (fun K hK => ?_); go_simp; have HX4 := hid (HX3.out.later ((Below.refl _ _).alloc (Nat.le_refl _) (.cells #[.int .i64 (i : Int),.int .i64 (j : Int),.int .i64 t] 121))); have a4 := HX4.out.c1; refine hK.out _ _ ?_ (fun hHeld => ?_)
       ·exact trivial
       clear hK K; try go_frame
       refine stpR 10 (fun K hK => ?_); refine Z01 rfl (.tmp 22) (.tmp 30) 93 rfl (g + 1) 121 i0 _ 3 24 Tryz.underlying93 hi0 hz0 hz1 hz2 (by decide) (.slice va xs.length vc) xs.length (flatA xs) rfl HX4.out.row ⟨w3.heap.size,0,none⟩ 1 (encA ((i : Int),(j : Int),t)) rfl rfl (Z8n _ ((i : Int),(j : Int),t) _ _ rfl) (oneA _) (by unfold maxLen; omega) (by omega) (by have := HX3.out.ltg; simp; omega) ?_
       intro g' cp4 w4 hown hgrow hfr; obtain ⟨hp,_,c4,d4⟩ := HX4.out.push hown hgrow; have HP := hid hp; clear hown hgrow hfr hp; refine hK.out _ _ ?_ (fun hHeld => ?_)
       ·exact trivial
       clear hK K; try go_frame
       refine stpT 11 hHeld ?_ (y := fun Wz hWz => by go_simp; (try with_reducible rfl))
       try go_frame
       refine stpR 12 (fun K hK => ?_); go_simp; refine hK.out _ _ ?_ (fun hHeld => ?_)
       ·exact trivial
       clear hK K; try go_frame
       refine wpAnyH_done (by kernel_rfl) ?_ _
       clear hHeld; go_wp2_with fail
       go_roundw
       case rel => exact ⟨j + 1,_,by go_num,by omega,hid (HP.out.turn (by rw [HN.out,← List.append_assoc,HXS.out,HTI.out]))⟩
       case measure => simp [intOf]; omega
      ·go_simp
       refine HC.out.mono ?_; rintro e w3 ⟨rfl,hb3⟩; have HX3 := hid (HX0.out.later hb3); have a3 := HX3.out.c1; clear hb3 HC; refine hK.out _ _ ?_ (fun hHeld => ?_)
       ·exact trivial
       clear hK K; try go_frame
       refine stpT 8 hHeld ?_ (y := fun Wz hWz => by go_simp; (try with_reducible rfl))
       try go_frame
       refine wpAnyH_ready (rs := [1,9]) (by kernel_rfl) (by simp) ?_
       refine AllReadyH.cons rfl (fun K hK => ?_) (AllReadyH.cons rfl (fun K hK => ?_) AllReadyH.nil)
       ·go_simp
        refine hK.out _ _ ?_ (fun hHeld => ?_)
        ·exact trivial
        clear hK K; try go_frame
        refine stpR 9 (fun K hK => ?_); go_simp; have HX4 := hid (HX3.out.later ((Below.refl _ _).alloc (Nat.le_refl _) (.cells #[.int .i64 (i : Int),.int .i64 (j : Int),.int .i64 t] 121))); have a4 := HX4.out.c1; refine hK.out _ _ ?_ (fun hHeld => ?_)
        ·exact trivial
        clear hK K; try go_frame
        refine stpR 10 (fun K hK => ?_); refine Z01 rfl (.tmp 22) (.tmp 30) 93 rfl (g + 1) 121 i0 _ 3 24 Tryz.underlying93 hi0 hz0 hz1 hz2 (by decide) (.slice va xs.length vc) xs.length (flatA xs) rfl HX4.out.row ⟨w3.heap.size,0,none⟩ 1 (encA ((i : Int),(j : Int),t)) rfl rfl (Z8n _ ((i : Int),(j : Int),t) _ _ rfl) (oneA _) (by unfold maxLen; omega) (by omega) (by have := HX3.out.ltg; simp; omega) ?_
        intro g' cp4 w4 hown hgrow hfr; obtain ⟨hp,_,c4,d4⟩ := HX4.out.push hown hgrow; have HP := hid hp; clear hown hgrow hfr hp; refine hK.out _ _ ?_ (fun hHeld => ?_)
        ·exact trivial
        clear hK K; try go_frame
        refine stpT 11 hHeld ?_ (y := fun Wz hWz => by go_simp; (try with_reducible rfl))
        try go_frame
        refine stpR 12 (fun K hK => ?_); go_simp; refine hK.out _ _ ?_ (fun hHeld => ?_)
        ·exact trivial
        clear hK K; try go_frame
        refine wpAnyH_done (by kernel_rfl) ?_ _
        clear hHeld; go_wp2_with fail
        go_roundw
        case rel => exact ⟨j + 1,_,by go_num,by omega,hid (HP.out.turn (by rw [HN.out,← List.append_assoc,HXS.out,HTI.out]))⟩
        case measure => simp [intOf]; omega
       ·go_simp
        have HX4 := hid (HX3.out.later ((Below.refl _ _).alloc (Nat.le_refl _) (.cells #[.int .i64 (i : Int),.int .i64 (j : Int),.int .i64 t] 121))); have a4 := HX4.out.c1; refine hK.out _ _ ?_ (fun hHeld => ?_)
        ·exact trivial
        clear hK K; try go_frame
        refine stpR 1 (fun K hK => ?_); go_simp; refine hK.out _ _ ?_ (fun hHeld => ?_)
        ·exact trivial
        clear hK K; try go_frame
        refine stpR 10 (fun K hK => ?_); refine Z01 rfl (.tmp 22) (.tmp 30) 93 rfl (g + 1) 121 i0 _ 3 24 Tryz.underlying93 hi0 hz0 hz1 hz2 (by decide) (.slice va xs.length vc) xs.length (flatA xs) rfl HX4.out.row ⟨w3.heap.size,0,none⟩ 1 (encA ((i : Int),(j : Int),t)) rfl rfl (Z8n _ ((i : Int),(j : Int),t) _ _ rfl) (oneA _) (by unfold maxLen; omega) (by omega) (by have := HX3.out.ltg; simp; omega) ?_
        intro g' cp4 w4 hown hgrow hfr; obtain ⟨hp,_,c4,d4⟩ := HX4.out.push hown hgrow; have HP := hid hp; clear hown hgrow hfr hp; refine hK.out _ _ ?_ (fun hHeld => ?_)
        ·exact trivial
        clear hK K; try go_frame
        refine stpT 11 hHeld ?_ (y := fun Wz hWz => by go_simp; (try with_reducible rfl))
        try go_frame
        refine stpR 12 (fun K hK => ?_); go_simp; refine hK.out _ _ ?_ (fun hHeld => ?_)
        ·exact trivial
        clear hK K; try go_frame
        refine wpAnyH_done (by kernel_rfl) ?_ _
        clear hHeld; go_wp2_with fail
        go_roundw
        case rel => exact ⟨j + 1,_,by go_num,by omega,hid (HP.out.turn (by rw [HN.out,← List.append_assoc,HXS.out,HTI.out]))⟩
        case measure => simp [intOf]; omega
    ·obtain rfl : j = N := by omega
     have HN := hid (Z6r (T := T) (N := j) (i := i)); go_wp2_with fail
     go_roundw
     case rel => exact ⟨i + 1,_,by go_num,by omega,hid (HX.out.turn HN.out.symm)⟩
     case measure => simp [intOf]; omega
  ·obtain rfl : i = N := by omega
   obtain ⟨va,vc,hv⟩ := Z04 HX.out.row; subst hv; have x0 := HX.out.c0; have x1 := HX.out.c1; have r0 := cell_of_row _ _ 0 _ _ _ HX.out.res; have r1 := cell_of_row _ _ 1 _ _ _ HX.out.res; have d0 := frozen_of_row _ _ 0 _ _ HX.out.res; have d1 := frozen_of_row _ _ 1 _ _ HX.out.res; go_wp2_with fail
   obtain ⟨g1,g2,g3⟩ := HX.out.done; exact bodyPost_ret (v := .agg #[.int .i64 (i : Int),.slice va (Z1g T i i).length vc]) (results_cell_row rfl _ _ w.heap.size 95 _ (0,0) _ rfl g1 Tryz.underlying95 rfl Z7m) rfl ⟨_,rfl,g2,g3⟩
end Go.Proofs.YtfkommjlmolniaaGreatDoor
end
