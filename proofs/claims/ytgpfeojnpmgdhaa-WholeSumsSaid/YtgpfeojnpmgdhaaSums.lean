/- The walk of the law on sums. -/
import Derived.Test.YtgpfeojnpmgdhaaLaws
namespace Go.Proofs.Ytgpfeojnpmgdhaa
open Go.RowKit

theorem wholeSums_none (a : Option Addr) (cap : Nat) (w : World) : Calls Try.prog 5 #[.slice a 0 cap] w fun e w' => e = .returned (.bool true) ∧ Below w.heap.size w w' := by
  go_enter Try.func5, Try.ntmps5
  go_wp2_with (go_at_call 8; refine (awake _).mono ?_; rintro e w1 ⟨rfl, hb1⟩)
  refine wp_loop_rounds 1 ?_
  rw [rounds_succ]
  go_wp2_with (go_at_call 13; refine (sum_none _ _ _).mono ?_; rintro e w' ⟨rfl, rfl⟩)
  go_ret
  exact ⟨rfl, hb1⟩

theorem wholeSums_long (a : Option Addr) (len cap : Nat) (h : 60 < len) (hbig : len ≤ maxLen) (w : World) : Calls Try.prog 5 #[.slice a len cap] w fun e w' => e = .returned (.bool true) ∧ Below w.heap.size w w' := by
  unfold maxLen at hbig
  have h1 : (60 : Int) < (len : Int) := by omega
  go_enter Try.func5, Try.ntmps5
  go_wp2_with (go_at_call 8; refine (awake _).mono ?_; rintro e w1 ⟨rfl, hb1⟩)
  go_ret
  exact ⟨rfl, hb1⟩

/-- The reference's way: want, is. -/
def sumV (o : Option Int) : Int := o.getD 0
def sumOk (o : Option Int) : Bool := o.isSome

theorem wholeSums_walk (b off len cap : Nat) (zs : List Int) (w : World) (hblk : b < w.heap.size) (hz : len = zs.length) (hbig : len ≤ maxLen) (hc : ∀ j, j < len → w.cell? ⟨b, off + j, none⟩ = some (.int .i64 (zs.getD j 0))) (hw : ∀ n ∈ zs, Fits n) :
    Calls Try.prog 5 #[.slice (some ⟨b, off, none⟩) len cap] w fun e w' => e = .returned (.bool true) ∧ Below w.heap.size w w' := by
  by_cases hlong : 60 < len
  · exact wholeSums_long _ _ _ hlong hbig w
  · unfold maxLen at hbig
    have hlong' : (len : Int) ≤ 60 := by omega
    have HW := Lib.hid hw; clear hw
    have HZ := Lib.hid hz; clear hz
    have HC := Lib.hid hc; clear hc
    go_enter Try.func5, Try.ntmps5
    go_wp2_with (go_at_call 8; refine (awake _).mono ?_; rintro e w1 ⟨rfl, hb1⟩)
    have HC1 : Hid (∀ j, j < len → w1.cell? ⟨b, off + j, none⟩ = some (.int .i64 (zs.getD j 0))) := Lib.hid (fun j hj => by rw [hb1.cell (p := ⟨b, off + j, none⟩) hblk]; exact HC.out j hj)
    go_loop [3, 4, 16] (fun n p i => ∃ (k : Nat), k ≤ len ∧ i = .int .i64 k ∧ n = .int .i64 (sumV (sumO (zs.take k))) ∧ p = .bool (sumOk (sumO (zs.take k))) ∧ Fits (sumV (sumO (zs.take k)))) (fun _ _ i => len - (intOf i).toNat)
    case atStart => exact ⟨0, Nat.zero_le _, rfl, rfl, rfl, fits_zero⟩
    case round =>
      obtain ⟨k, hk, rfl, rfl, rfl, hf⟩ := hrel
      have HF := Lib.hid hf; clear hf
      by_cases hlt : k < len
      · have hcell := HC1.out k hlt
        have hst : Hid (sumO (zs.take (k + 1)) = sumStep (sumO (zs.take k)) (zs.getD k 0)) := Lib.hid (by rw [sum_take _ _ (by rw [← HZ.out]; exact hlt), sumO_snoc])
        have HX : Hid (Fits (zs.getD k 0)) := Lib.hid (HW.out _ (by rw [List.getD_eq_getElem?_getD, List.getElem?_eq_getElem (by rw [← HZ.out]; exact hlt)]; simp))
        generalize zs.getD k 0 = x at hcell hst HX
        generalize sumO (zs.take k) = o at hst HF ⊢
        cases o with
        | none =>
          have e1 : sumV none = 0 := rfl
          have e2 : sumOk none = false := rfl
          go_wp2
          go_round
          case rel => exact ⟨k + 1, by omega, by go_num, by rw [hst.out]; rfl, by rw [hst.out]; rfl, by rw [hst.out]; exact fits_zero⟩
          case measure => simp [intOf]; omega
        | some z =>
          have e1 : sumV (some z) = z := rfl
          have e2 : sumOk (some z) = true := rfl
          have HF' : Hid (Fits z) := HF.out
          have r1 : Hid (fitV (z + x) = sumV (sumO (zs.take (k + 1)))) := Lib.hid (by rw [hst.out]; simp only [sumStep]; unfold fitV; split <;> rfl)
          have r2 : Hid (fitOk (z + x) = sumOk (sumO (zs.take (k + 1)))) := Lib.hid (by rw [hst.out]; simp only [sumStep]; unfold fitOk; split <;> simp_all [sumOk])
          go_wp2_with (go_at_call 10; refine (radd_any _ _ HF'.out HX.out _).mono ?_; rintro e w' ⟨rfl, rfl⟩)
          go_round
          case rel => exact ⟨k + 1, by omega, by go_num, by rw [r1.out], by rw [r2.out], by rw [← r1.out]; exact fitV_fits _⟩
          case measure => simp [intOf]; omega
      · have hall : zs.take k = zs := List.take_of_length_le (by have := HZ.out; omega)
        rw [hall]
        have e1 : Hid (sumV (sumO zs) = (sumO zs).getD 0) := Lib.hid rfl
        have e2 : Hid (sumOk (sumO zs) = (sumO zs).isSome) := Lib.hid rfl
        rw [e1.out, e2.out]
        clear hall
        go_wp2_with (go_at_call 13; refine (sum_any _ _ _ _ zs _ HZ.out (by unfold maxLen; omega) HC1.out HW.out).mono ?_; rintro e w' ⟨rfl, rfl⟩)
        go_ret
        exact ⟨rfl, hb1⟩
end Go.Proofs.Ytgpfeojnpmgdhaa
