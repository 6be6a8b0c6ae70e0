/- What Sum of package whole answers, of any numbers. -/
import Derived.Test.YtgpfeojnpmgdhaaArith
namespace Go.Proofs.Ytgpfeojnpmgdhaa
open Go.RowKit

/-- All, added from the left; none: at some place int64 does not hold it. -/
def sumStep (o : Option Int) (c : Int) : Option Int :=
  match o with
  | none => none
  | some n => if Fits (n + c) then some (n + c) else none
def sumO (l : List Int) : Option Int := l.foldl sumStep (some 0)
theorem sumO_snoc (l : List Int) (c : Int) : sumO (l ++ [c]) = sumStep (sumO l) c := by simp [sumO, List.foldl_append]
theorem foldl_sum_none (l : List Int) : l.foldl sumStep none = none := by
  induction l with
  | nil => rfl
  | cons c r ih => simpa [List.foldl, sumStep] using ih
theorem sumO_cut (l : List Int) (k : Nat) (h : sumO (l.take (k + 1)) = none) : sumO l = none := by
  rw [← List.take_append_drop (k + 1) l]
  unfold sumO at h ⊢
  rw [List.foldl_append, h, foldl_sum_none]
theorem sum_take (zs : List Int) (k : Nat) (h : k < zs.length) : zs.take (k + 1) = zs.take k ++ [zs.getD k 0] := by
  rw [List.take_succ_eq_append_getElem h]
  simp [List.getD_eq_getElem?_getD, List.getElem?_eq_getElem h]

theorem sum_any (b off len cap : Nat) (zs : List Int) (w : World) (hz : len = zs.length) (hbig : len ≤ maxLen) (hc : ∀ j, j < len → w.cell? ⟨b, off + j, none⟩ = some (.int .i64 (zs.getD j 0))) (hw : ∀ n ∈ zs, Fits n) :
    Calls Try.prog 13 #[.slice (some ⟨b, off, none⟩) len cap] w fun e w' => e = .returned (.tuple #[.int .i64 ((sumO zs).getD 0), .bool (sumO zs).isSome]) ∧ w = w' := by
  unfold maxLen at hbig
  have HW := Lib.hid hw; clear hw
  have HZ := Lib.hid hz; clear hz
  have HC := Lib.hid hc; clear hc
  go_enter Try.func13, Try.ntmps13
  go_wp2
  go_loop [4, 11] (fun n i => ∃ (k : Nat) (z : Int), k ≤ len ∧ i = .int .i64 k ∧ n = .int .i64 z ∧ sumO (zs.take k) = some z ∧ Fits z) (fun _ i => len - (intOf i).toNat)
  case atStart => exact ⟨0, 0, Nat.zero_le _, rfl, rfl, rfl, fits_zero⟩
  case round =>
    obtain ⟨k, z, hk, rfl, rfl, hs, hf⟩ := hrel
    have HS := Lib.hid hs; clear hs
    have HF := Lib.hid hf; clear hf
    by_cases hlt : k < len
    · have hcell := HC.out k hlt
      have hst : Hid (sumO (zs.take (k + 1)) = sumStep (some z) (zs.getD k 0)) := Lib.hid (by rw [sum_take _ _ (by rw [← HZ.out]; exact hlt), sumO_snoc, HS.out])
      have HX : Hid (Fits (zs.getD k 0)) := Lib.hid (HW.out _ (by rw [List.getD_eq_getElem?_getD, List.getElem?_eq_getElem (by rw [← HZ.out]; exact hlt)]; simp))
      generalize zs.getD k 0 = x at hcell hst HX
      by_cases hfit : Fits (z + x)
      · have hv := Lib.hid (fitV_yes hfit)
        have ho := fitOk_yes hfit
        have HFit := Lib.hid hfit; clear hfit
        go_wp2_with (go_at_call 9; refine (add_any _ _ HF.out HX.out _).mono ?_; rintro e w' ⟨rfl, rfl⟩)
        go_round
        case rel => exact ⟨k + 1, z + x, by omega, by go_num, by rw [hv.out], by rw [hst.out]; simp only [sumStep]; rw [if_pos HFit.out], HFit.out⟩
        case measure => simp [intOf]; omega
      · have ho := fitOk_no hfit
        have hno : Hid (sumO zs = none) := Lib.hid (sumO_cut _ k (by rw [hst.out]; simp only [sumStep]; rw [if_neg hfit]))
        clear hfit
        go_wp2_with (go_at_call 9; refine (add_any _ _ HF.out HX.out _).mono ?_; rintro e w' ⟨rfl, rfl⟩)
        go_ret2
        exact ⟨by rw [hno.out]; rfl, rfl⟩
    · have hall : Hid (sumO zs = some z) := Lib.hid (by have := HS.out; rwa [List.take_of_length_le (by have := HZ.out; omega)] at this)
      go_wp2
      go_ret2
      exact ⟨by rw [hall.out]; rfl, rfl⟩

theorem sum_none (a : Option Addr) (cap : Nat) (w : World) : Calls Try.prog 13 #[.slice a 0 cap] w fun e w' => e = .returned (.tuple #[.int .i64 0, .bool true]) ∧ w = w' := by
  go_enter Try.func13, Try.ntmps13
  go_wp2
  refine wp_loop_rounds 1 ?_
  rw [rounds_succ]
  go_wp2
  go_ret2
  exact ⟨rfl, rfl⟩
end Go.Proofs.Ytgpfeojnpmgdhaa
