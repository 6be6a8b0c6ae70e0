/- Package plan: one of so many; what a truck leaves, what a bike's customers get. -/
import Derived.Test.YtmnbpnjakbihdaaPlT
import Derived.Test.YtmnbpnjakbihdaaSetOf
import Derived.Test.YtmnbpnjakbihdaaSetOr
import Derived.Test.YtmnbpnjakbihdaaHas
namespace Go.Proofs.Ytmnbpnjakbihdaa
open Go.RowKit

variable {w wr : World} {A : InA} {x : Ins} {B n : Nat} {a : Option Addr}
theorem among_any (n m : Int) (b : Bool) (w : World) (hb : amB n m = b) :
    Calls Try.prog 43 #[.int .i64 n, .int .i64 m] w fun e w' => e = .returned (.bool b) ∧ w' = w := by
  by_cases h1 : 0 ≤ n
  · have d1 : decide (n ≥ 0) = true := decide_eq_true h1
    by_cases h2 : n < m
    · have e : b = true := by rw [← hb]; exact amB_true.2 ⟨h1, h2⟩
      have d2 : decide (n < m) = true := decide_eq_true h2
      subst e
      go_enter Try.func43, Try.ntmps43
      go_wp2_with fail
      go_ret
      exact ⟨rfl, rfl⟩
    · have e : b = false := by rw [← hb]; exact amB_false.2 (fun h => h2 h.2)
      have d2 : decide (n < m) = false := decide_eq_false h2
      subst e
      go_enter Try.func43, Try.ntmps43
      go_wp2_with fail
      go_ret
      exact ⟨rfl, rfl⟩
  · have d1 : decide (n ≥ 0) = false := decide_eq_false h1
    have e : b = false := by rw [← hb]; exact amB_false.2 (fun h => h1 h.1)
    subst e
    go_enter Try.func43, Try.ntmps43
    go_wp2_with fail
    go_ret
    exact ⟨rfl, rfl⟩
set_option maxHeartbeats 1000000 in
theorem tload_any (ra : Option Addr) (rc : Nat) (t : List (Int × Int)) (w : World) (hi : IsPairs w.heap.size w ra t.length t) (hl : t.length ≤ 1000) (hs : ∀ s ∈ t, 1 ≤ s.2 ∧ s.2 ≤ 1000000000) :
    Calls Try.prog 67 #[.agg #[.slice ra t.length rc]] w fun e w' => e = .returned (.int .i64 (tload t)) ∧ Below w.heap.size w w' := by
  have HX := Lib.hid (CBox.make (Below.refl _ w) #[.slice ra t.length rc] 58)
  have HI := Lib.hid hi
  have HS : Hid (∀ k, k ≤ 1000 → 0 ≤ sumF (·.2) (t.take k) ∧ sumF (·.2) (t.take k) ≤ 1000 * 1000000000) := Lib.hid (fun k hk => sumF_take_in (fun c hc => by have := hs c hc; omega) (by omega) hk)
  have HT := Lib.hid hs
  obtain ⟨n, hn⟩ : ∃ n, t.length = n := ⟨_, rfl⟩
  rw [hn] at HX HI hl ⊢
  have HN := Lib.hid hn
  clear hi hs hn
  have c0 := HX.out.cell1
  go_enter Try.func67, Try.ntmps67
  go_wp2_with fail
  clear c0
  go_loopw [3, 9] (fun mv iv wr => ∃ i : Nat, iv = .int .i64 (i : Int) ∧ mv = .int .i64 (sumF (·.2) (t.take i)) ∧ i ≤ n ∧ Hid (CBox w wr w.heap.size #[.slice ra n rc] 58)) (fun _ iv _ => n - (intOf iv).toNat)
  case atStart => exact ⟨0, rfl, rfl, Nat.zero_le _, HX⟩
  case round =>
    obtain ⟨i, rfl, rfl, hi, HXR⟩ := hrel
    clear HX
    by_cases hlt : i < n
    · obtain ⟨b, off, s, rfl, hb, hg, q0, q1⟩ := (HI.out.later HXR.out.below).at_ hlt
      have HE := Lib.hid (sumF_next (f := (·.2)) hg)
      have h1 := HS.out i (by omega)
      have h2 := HT.out s (List.mem_of_getElem? hg)
      have HX2 := Lib.hid (HXR.out.alloc (.cells #[.int .i64 s.1, .int .i64 s.2] 63))
      clear hg hb
      obtain ⟨u, hu⟩ : ∃ u, sumF (·.2) (t.take i) = u := ⟨_, rfl⟩
      rw [hu] at HE h1 ⊢
      clear hu
      go_wp2_with fail
      go_roundw
      case rel => exact ⟨i + 1, by go_num, by rw [HE.out], by omega, HX2⟩
      case measure => simp [intOf]; omega
    · obtain rfl : i = n := by omega
      have HE : Hid (sumF (·.2) (t.take i) = tload t) := Lib.hid (by rw [List.take_of_length_le (by rw [HN.out]; exact Nat.le_refl _)]; rfl)
      go_wp2_with fail
      go_ret
      exact ⟨by rw [HE.out]; rfl, HXR.out.below⟩
set_option maxHeartbeats 1000000 in
theorem bload_any (A : InA) (x : Ins) (s : Int) (ra : Option Addr) (rc : Nat) (l : List Int) (w : World) (hx : IsIns w.heap.size w A x) (hm : May x) (hi : IsNums w.heap.size w ra l.length l) (hl : l.length ≤ 1000) :
    Calls Try.prog 47 #[.agg #[.int .i64 s, .slice ra l.length rc], .agg (insC A x)] w fun e w' => e = .returned (.int .i64 (bload x l)) ∧ Below w.heap.size w w' := by
  have HQ := Lib.hid (CBox.make (Below.refl _ w) #[.int .i64 s, .slice ra l.length rc] 55)
  have HX0 := Lib.hid (CBox.make HQ.out.below (insC A x) 37)
  have HQ0 := Lib.hid (HQ.out.alloc (.cells (insC A x) 37))
  clear HQ
  have HI := Lib.hid hi
  have HC := Lib.hid hx.cus
  have HM := Lib.hid hm
  have hnc := hm.nc
  have HS : Hid (∀ k, k ≤ 1000 → 0 ≤ sumF (wantL x) (l.take k) ∧ sumF (wantL x) (l.take k) ≤ 1000 * 1000000000) := Lib.hid (fun k hk => sumF_take_in (fun c _ => wantL_in hm c) (by omega) hk)
  obtain ⟨n, hn⟩ : ∃ n, l.length = n := ⟨_, rfl⟩
  rw [hn] at HX0 HQ0 HI hl ⊢
  have HN := Lib.hid hn
  clear hi hn hx hm
  have hsz : (w.alloc (.cells #[.int .i64 s, .slice ra n rc] 55)).heap.size = w.heap.size + 1 := by simp
  rw [hsz] at HX0
  clear hsz
  obtain ⟨c0, c1⟩ := HQ0.out.cell2
  unfold insC at *
  go_enter Try.func47, Try.ntmps47
  go_wp2_with fail
  clear c0 c1
  go_loopw [5, 11] (fun mv iv wr => ∃ i : Nat, iv = .int .i64 (i : Int) ∧ mv = .int .i64 (sumF (wantL x) (l.take i)) ∧ i ≤ n ∧ Hid (CBox w wr (w.heap.size + 1) (insC A x) 37)) (fun _ iv _ => n - (intOf iv).toNat)
  case atStart => exact ⟨0, rfl, rfl, Nat.zero_le _, HX0⟩
  case round =>
    obtain ⟨i, rfl, rfl, hi, HXR⟩ := hrel
    clear HX0 HQ0
    by_cases hlt : i < n
    · obtain ⟨b, off, c, rfl, hg, q0⟩ := (HI.out.later HXR.out.below).at_ hlt
      have HE := Lib.hid (sumF_next (f := wantL x) hg)
      have h1 := HS.out i (by omega)
      have h2 := wantL_in HM.out c
      have hgc : wr.cell? ⟨w.heap.size + 1, 6, none⟩ = some (.slice A.ca x.cus.length A.cc) := by simp [World.cell?, HXR.out.blk, insC]
      clear hg
      obtain ⟨u, hu⟩ : ∃ u, sumF (wantL x) (l.take i) = u := ⟨_, rfl⟩
      rw [hu] at HE h1 ⊢
      clear hu
      cases hb : amB c x.cus.length with
      | true =>
        have hbb := amB_true.1 hb
        obtain ⟨m, rfl⟩ : ∃ m : Nat, c = (m : Int) := ⟨c.toNat, by omega⟩
        obtain ⟨bc, oc, y, hca, hbc, hy, p0, p1, p2, p3⟩ := (HC.out.later HXR.out.below).at_ (show m < x.cus.length by omega)
        have hw : wantL x (m : Int) = y.1 := by
          unfold wantL
          rw [hb, if_pos rfl, show ((m : Int).toNat) = m from by omega, List.getD, hy]; rfl
        rw [hw] at HE h2
        rw [hca] at hgc
        clear hy hca hw
        go_wp2_with (go_at_call 43; refine (among_any _ _ true _ hb).mono ?_; rintro e w5 ⟨rfl, rfl⟩)
        go_roundw
        case rel => exact ⟨i + 1, by go_num, by rw [HE.out], by omega, HXR⟩
        case measure => simp [intOf]; omega
      | false =>
        have hw : wantL x c = 0 := by
          unfold wantL
          rw [hb]; simp
        have HE2 : Hid (sumF (wantL x) (l.take (i + 1)) = u) := Lib.hid (by rw [HE.out, hw]; omega)
        clear hw HE h2
        go_wp2_with (go_at_call 43; refine (among_any _ _ false _ hb).mono ?_; rintro e w5 ⟨rfl, rfl⟩)
        go_roundw
        case rel => exact ⟨i + 1, by go_num, by rw [HE2.out], by omega, HXR⟩
        case measure => simp [intOf]; omega
    · obtain rfl : i = n := by omega
      have HE : Hid (sumF (wantL x) (l.take i) = bload x l) := Lib.hid (by rw [List.take_of_length_le (by rw [HN.out]; exact Nat.le_refl _)]; rfl)
      go_wp2_with fail
      go_ret
      exact ⟨by rw [HE.out]; rfl, HXR.out.below⟩
end Go.Proofs.Ytmnbpnjakbihdaa
