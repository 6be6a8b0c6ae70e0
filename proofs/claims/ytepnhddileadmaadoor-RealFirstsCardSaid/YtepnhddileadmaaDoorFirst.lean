/- What First of package real answers. -/
import Derived.Test.YtepnhddileadmaaDoorReal
import Derived.Laws.Entries
namespace Go.Proofs.YtepnhddileadmaaDoor
open Go.RowKit

def firstStep (l : List Nat) (f : Int) (k : Nat) : Int := if f < 0 ∨ lessB (l.getD k 0) (l.getD f.toNat 0) = true then (k : Int) else f
/-- The place of the first one of k that none is ahead of. -/
def firstAt (l : List Nat) : Nat → Int
  | 0 => -1
  | k + 1 => firstStep l (firstAt l k) k
theorem firstAt_range (l : List Nat) (k : Nat) : -1 ≤ firstAt l k ∧ firstAt l k < (k : Int) ∧ (1 ≤ k → 0 ≤ firstAt l k) := by
  induction k with
  | zero => exact ⟨by simp [firstAt], by simp [firstAt], by omega⟩
  | succ k ih =>
    have e : firstAt l (k + 1) = firstStep l (firstAt l k) k := rfl
    rw [e]
    unfold firstStep
    split
    · omega
    · rename_i h
      have : ¬ firstAt l k < 0 := fun g => h (.inl g)
      omega
theorem firstAt_pos (l : List Nat) (k : Nat) (h : 1 ≤ k) : ∃ m : Nat, firstAt l k = (m : Int) ∧ m < k := by
  have := firstAt_range l k
  exact ⟨(firstAt l k).toNat, by omega, by omega⟩
theorem firstAt_one (l : List Nat) : firstAt l 1 = 0 := rfl
theorem firstAt_yes (l : List Nat) (k m : Nat) (h : firstAt l k = (m : Int)) (c : lessB (l.getD k 0) (l.getD m 0) = true) : firstAt l (k + 1) = (k : Int) := by
  show firstStep l (firstAt l k) k = _
  unfold firstStep
  rw [h, Int.toNat_natCast, if_pos (.inr c)]
theorem firstAt_no (l : List Nat) (k m : Nat) (h : firstAt l k = (m : Int)) (c : lessB (l.getD k 0) (l.getD m 0) = false) : firstAt l (k + 1) = (m : Int) := by
  show firstStep l (firstAt l k) k = _
  unfold firstStep
  rw [h, Int.toNat_natCast, if_neg (by rw [c]; simp)]

theorem first_none (a : Option Addr) (cap : Nat) (w : World) : Calls Tryd.prog 17 #[.slice a 0 cap] w fun e w' => e = .returned (.int .i64 (-1)) ∧ w = w' := by
  go_enter Tryd.func17, Tryd.ntmps17
  go_wp2
  refine wp_loop_rounds 1 ?_
  rw [rounds_succ]
  go_wp2
  go_ret
  exact ⟨rfl, rfl⟩
theorem first_any (b off len cap : Nat) (l : List Nat) (w : World) (hbig : len ≤ 1000000) (hc : ∀ j, j < len → w.cell? ⟨b, off + j, none⟩ = some (.float .f64 (l.getD j 0))) (hw : ∀ j, j < len → l.getD j 0 < 18446744073709551616) :
    Calls Tryd.prog 17 #[.slice (some ⟨b, off, none⟩) len cap] w fun e w' => e = .returned (.int .i64 (firstAt l len)) ∧ w = w' := by
  have HW := Lib.hid hw; clear hw
  have HC := Lib.hid hc; clear hc
  go_enter Tryd.func17, Tryd.ntmps17
  go_wp2
  go_loop [3, 8] (fun f i => ∃ (k : Nat), k ≤ len ∧ i = .int .i64 k ∧ f = .int .i64 (firstAt l k)) (fun _ i => len - (intOf i).toNat)
  case atStart => exact ⟨0, Nat.zero_le _, rfl, rfl⟩
  case round =>
    obtain ⟨k, hk, rfl, rfl⟩ := hrel
    by_cases hlt : k < len
    · have hcell := HC.out k hlt
      have hx := Lib.hid (HW.out k hlt)
      by_cases h0 : k = 0
      · subst h0
        have e0 : firstAt l 0 = -1 := rfl
        have e1 : Hid (firstAt l (0 + 1) = 0) := Lib.hid (firstAt_one l)
        rw [e0]
        clear e0 hcell
        have hcell : w.cell? ⟨b, off, none⟩ = some (.float .f64 (l.getD 0 0)) := HC.out 0 hlt
        generalize l.getD 0 0 = x at hcell hx
        go_wp2
        go_round
        case rel => exact ⟨0 + 1, by omega, by go_num, by rw [e1.out]; rfl⟩
        case measure => simp [intOf]; omega
      · obtain ⟨m, em, hm⟩ := firstAt_pos l k (by omega)
        have hcell2 := HC.out m (by omega)
        have hy := Lib.hid (HW.out m (by omega))
        rw [em]
        cases hless : lessB (l.getD k 0) (l.getD m 0) with
        | true =>
          have e1 := Lib.hid (firstAt_yes l k m em hless)
          clear em
          generalize l.getD k 0 = x at hcell hx hless
          generalize l.getD m 0 = y at hcell2 hy hless
          go_wp2_with (go_at_call 15; refine (less_any _ _ hx.out hy.out _).mono ?_; rintro e w' ⟨rfl, rfl⟩)
          go_round
          case rel => exact ⟨k + 1, by omega, by go_num, by rw [e1.out]⟩
          case measure => simp [intOf]; omega
        | false =>
          have e1 := Lib.hid (firstAt_no l k m em hless)
          clear em
          generalize l.getD k 0 = x at hcell hx hless
          generalize l.getD m 0 = y at hcell2 hy hless
          go_wp2_with (go_at_call 15; refine (less_any _ _ hx.out hy.out _).mono ?_; rintro e w' ⟨rfl, rfl⟩)
          go_round
          case rel => exact ⟨k + 1, by omega, by go_num, by rw [e1.out]⟩
          case measure => simp [intOf]; omega
    · obtain rfl : k = len := by omega
      go_wp2
      go_ret
      exact ⟨rfl, rfl⟩
end Go.Proofs.YtepnhddileadmaaDoor
