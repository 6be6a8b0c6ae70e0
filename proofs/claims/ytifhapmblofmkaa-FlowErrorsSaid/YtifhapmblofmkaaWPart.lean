/- Nodes that one doesn't come out of any more are lifted. -/
import Derived.Test.YtifhapmblofmkaaWMove
import Derived.LoopTactic
namespace Go.Proofs.Ytifhapmblofmkaa
open Go.RowKit

variable {w wr w2 w4 : World} {E : Env} {fl st : Nat → Int} {hi nx : Nat → Nat} {mn mn2 : Nat → Int} {fv : Nat → Value} {Q : Nat → List Nat} {top : Int} {N g c : Nat}
theorem parted_zero : parted N g 0 hi = hi := by funext i; simp [parted]
theorem partedNx_zero : partedNx N g 0 hi nx = nx := by funext i; simp [partedNx]
theorem parted_at : parted N g c hi c = hi c := by simp [parted]
theorem parted_take (h : g < hi c ∧ hi c < N) : lifted (parted N g c hi) c (N + 1) = parted N g (c + 1) hi := by
  funext i
  unfold lifted parted
  by_cases e : i = c
  · subst e; rw [if_pos rfl, if_pos (by omega)]
  · rw [if_neg e]
    by_cases e2 : i < c ∧ g < hi i ∧ hi i < N
    · rw [if_pos e2, if_pos (by omega)]
    · rw [if_neg e2, if_neg (by omega)]
theorem partedNx_take (h : g < hi c ∧ hi c < N) : lifted (partedNx N g c hi nx) c 0 = partedNx N g (c + 1) hi nx := by
  funext i
  unfold lifted partedNx
  by_cases e : i = c
  · subst e; rw [if_pos rfl, if_pos (by omega)]
  · rw [if_neg e]
    by_cases e2 : i < c ∧ g < hi i ∧ hi i < N
    · rw [if_pos e2, if_pos (by omega)]
    · rw [if_neg e2, if_neg (by omega)]
theorem parted_skip (h : ¬ (g < hi c ∧ hi c < N)) : parted N g c hi = parted N g (c + 1) hi := by
  funext i
  unfold parted
  by_cases e2 : i < c ∧ g < hi i ∧ hi i < N
  · rw [if_pos e2, if_pos (by omega)]
  · rw [if_neg e2, if_neg (fun h3 => by
      by_cases e : i = c
      · subst e; exact h ⟨h3.2.1, h3.2.2⟩
      · omega)]
theorem partedNx_skip (h : ¬ (g < hi c ∧ hi c < N)) : partedNx N g c hi nx = partedNx N g (c + 1) hi nx := by
  funext i
  unfold partedNx
  by_cases e2 : i < c ∧ g < hi i ∧ hi i < N
  · rw [if_pos e2, if_pos (by omega)]
  · rw [if_neg e2, if_neg (fun h3 => by
      by_cases e : i = c
      · subst e; exact h ⟨h3.2.1, h3.2.2⟩
      · omega)]
set_option maxHeartbeats 2000000 in
set_option maxRecDepth 100000 in
theorem part_any (H : Wk E fl st hi nx (cnt E.N hi) fv Q top wr) (hN2 : 2 ≤ E.N) (hN : E.N ≤ 1000) (hb : ∀ i, i < E.N → hi i < 2 * E.N) (g : Nat) :
    Calls Try.prog 35 #[.pointer (some ⟨E.p, 0, none⟩), .int .i64 (g : Int)] wr fun e w' => e = .returned (.tuple #[]) ∧ Below E.C wr w' ∧ Wk E fl st (parted E.N g E.N hi) (partedNx E.N g E.N hi nx) (cnt E.N (parted E.N g E.N hi)) fv Q top w' := by
  obtain ⟨w0, hw0⟩ : ∃ w0, w0 = wr := ⟨_, rfl⟩
  rw [← hw0] at H ⊢
  clear hw0
  obtain ⟨_, _, _, _, _, _, _, a7, _⟩ := H.cellW
  have HB := Lib.hid hb; clear hb
  have H0 : Hid (Below E.C w0 w0 ∧ Wk E fl st (parted E.N g 0 hi) (partedNx E.N g 0 hi nx) (cnt E.N (parted E.N g 0 hi)) fv Q top w0) := Lib.hid ⟨Below.refl _ _, by rw [parted_zero, partedNx_zero]; exact H⟩
  clear H
  go_enter Try.func35, Try.ntmps35
  go_wp2_with fail
  clear a7
  go_loopw [11] (fun i wr => ∃ c : Nat, i = .int .i64 c ∧ c ≤ E.N ∧ Hid (Below E.C w0 wr ∧ Wk E fl st (parted E.N g c hi) (partedNx E.N g c hi nx) (cnt E.N (parted E.N g c hi)) fv Q top wr)) (fun i _ => E.N - (intOf i).toNat)
  case atStart => exact ⟨0, rfl, Nat.zero_le _, H0⟩
  case round =>
    obtain ⟨c, rfl, hc, HX⟩ := hrel
    clear H0
    by_cases hlt : c < E.N
    · obtain ⟨a0, _⟩ := HX.out.2.cellW
      have r0 := HX.out.2.high.cell hlt
      rw [parted_at] at r0
      have hm := HB.out c hlt
      obtain ⟨m, hm2⟩ : ∃ m, hi c = m := ⟨_, rfl⟩
      have HM := Lib.hid hm2
      rw [hm2] at r0 hm
      clear hm2
      by_cases h1 : g < m
      · by_cases h2 : m < E.N
        · go_wp2_with (go_at_call 34; refine (move_any HX.out.2 hN c (E.N + 1) hlt (by rw [parted_at, HM.out]; exact hm) (by omega)).mono ?_; rintro e w2 ⟨rfl, hb2, hk2⟩; have HY := Lib.hid hk2; have HZ := Lib.hid (HX.out.1.trans hb2); clear hb2 hk2)
          go_roundw
          case rel => exact ⟨c + 1, by go_num, by omega, Lib.hid ⟨HZ.out, by have := HY.out; rw [parted_take (by rw [HM.out]; exact ⟨h1, h2⟩), partedNx_take (by rw [HM.out]; exact ⟨h1, h2⟩)] at this; exact this⟩⟩
          case measure => simp [intOf]; omega
        · go_wp2_with fail
          go_roundw
          case rel => exact ⟨c + 1, by go_num, by omega, Lib.hid (by have := HX.out; rw [parted_skip (by rw [HM.out]; omega), partedNx_skip (by rw [HM.out]; omega)] at this; exact this)⟩
          case measure => simp [intOf]; omega
      · go_wp2_with fail
        go_roundw
        case rel => exact ⟨c + 1, by go_num, by omega, Lib.hid (by have := HX.out; rw [parted_skip (by rw [HM.out]; omega), partedNx_skip (by rw [HM.out]; omega)] at this; exact this)⟩
        case measure => simp [intOf]; omega
    · obtain rfl : c = E.N := by omega
      go_wp2_with fail
      go_end0
      exact ⟨rfl, HX.out.1, HX.out.2⟩
end Go.Proofs.Ytifhapmblofmkaa
