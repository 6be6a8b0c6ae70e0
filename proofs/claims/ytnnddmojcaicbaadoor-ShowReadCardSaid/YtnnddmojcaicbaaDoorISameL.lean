/- Are two instances the same: the law's own answer, row by row. -/
import Derived.Test.YtnnddmojcaicbaaDoorIEq
import Derived.Test.YtnnddmojcaicbaaDoorIMakeW
import Derived.Deep.RegionWith
import Derived.Deep.CutRange
namespace Go.Proofs.YtnnddmojcaicbaaDoor
open Go.RowKit

variable {w wr : World} {A1 A2 : InA} {x y : Ins} {a1 a2 : Option Addr} {n1 n2 c1 c2 B1 B2 : Nat}
theorem eq64b {l1 l2 : List Int} (w : World) (h1 : IsNums B1 w a1 n1 l1) (h2 : IsNums B2 w a2 n2 l2) (hn : n1 ≤ 1000000) (b : Bool) (hb : decide (l1 = l2) = b) :
    Calls Tryd.prog 41 #[.slice a1 n1 c1, .slice a2 n2 c2] w fun e w' => e = .returned (.bool b) ∧ ∃ m, w' = w.drewN m := by subst hb; exact eq64_any w h1 h2 hn
theorem eqSatb {l1 l2 : List (Int × Int)} (w : World) (h1 : IsPairs B1 w a1 n1 l1) (h2 : IsPairs B2 w a2 n2 l2) (hn : n1 ≤ 1000000) (b : Bool) (hb : decide (l1 = l2) = b) :
    Calls Tryd.prog 42 #[.slice a1 n1 c1, .slice a2 n2 c2] w fun e w' => e = .returned (.bool b) ∧ Below w.heap.size w w' := by subst hb; exact (eqSat_any w h1 h2 hn).mono (fun e w' ⟨h, m, hw⟩ => ⟨h, by rw [hw]; exact below_drewN (Below.refl _ _) m⟩)
theorem eqCusb {l1 l2 : List Pi} (w : World) (h1 : IsPipes B1 w a1 n1 l1) (h2 : IsPipes B2 w a2 n2 l2) (hn : n1 ≤ 1000000) (b : Bool) (hb : decide (l1 = l2) = b) :
    Calls Tryd.prog 43 #[.slice a1 n1 c1, .slice a2 n2 c2] w fun e w' => e = .returned (.bool b) ∧ Below w.heap.size w w' := by subst hb; exact (eqCus_any w h1 h2 hn).mono (fun e w' ⟨h, m, hw⟩ => ⟨h, by rw [hw]; exact below_drewN (Below.refl _ _) m⟩)
set_option maxHeartbeats 1000000 in
theorem law1_any {L1 L2 : List (List Int)} (w : World) (h1 : IsRows B1 w a1 n1 L1) (h2 : IsRows B2 w a2 n2 L2) (hn : n1 ≤ 1000) (hr : ∀ (i : Nat) (r : List Int), L1[i]? = some r → r.length ≤ 1000) (b : Bool) (hb : decide (L1 = L2) = b) :
    Calls Tryd.prog 40 #[.slice a1 n1 c1, .slice a2 n2 c2] w fun e w' => e = .returned (.bool b) ∧ Below w.heap.size w w' := by
  have H1 := Lib.hid h1
  have H2 := Lib.hid h2
  have HB := Lib.hid hb
  have HR := Lib.hid hr
  have e1 := h1.1
  have e2 := h2.1
  clear h1 h2 hb hr
  by_cases hl : n1 = n2
  · subst hl
    have HS0 : Hid (upTo L1 L2 0) := Lib.hid (fun j hj => by omega)
    have HE1 := Lib.hid e1
    have HE2 := Lib.hid e2
    clear e1 e2
    go_enter Tryd.func40, Tryd.ntmps40
    go_wp2_with fail
    go_loopw [13] (fun i wr => ∃ k m : Nat, i = .int .i64 k ∧ k ≤ n1 ∧ wr = w.drewN m ∧ Hid (upTo L1 L2 k)) (fun i _ => n1 - (intOf i).toNat)
    case atStart => exact ⟨0, 0, rfl, Nat.zero_le _, rfl, HS0⟩
    case round =>
      obtain ⟨k, m, rfl, hk, rfl, HS⟩ := hrel
      clear HS0
      by_cases hlt : k < n1
      · obtain ⟨b1, o1, r1, p1, d1, rfl, _, g1, l1, q1, hn1⟩ := H1.out.at_ hlt
        obtain ⟨b2, o2, r2, p2, d2, rfl, _, g2, l2, q2, hn2⟩ := H2.out.at_ hlt
        have hl1 := HR.out k r1 g1
        have HN1 := Lib.hid hn1
        have HN2 := Lib.hid hn2
        clear hn1 hn2
        by_cases he : r1 = r2
        · have HD : Hid (decide (r1 = r2) = true) := Lib.hid (decide_eq_true he)
          have HT : Hid (upTo L1 L2 (k + 1)) := Lib.hid (upTo_next HS.out (by rw [g1, g2, he]))
          clear g1 g2 he
          go_wp2_with fail
          have HW : Hid (∀ B, Below B w (w.drewN m)) := Lib.hid (fun B => below_drewN (Below.refl _ _) _)
          have t1 : (w.drewN m).cell? ⟨b1, o1 + k, none⟩ = some (.slice p1 r1.length d1) := by simpa using q1
          have t2 : (w.drewN m).cell? ⟨b2, o2 + k, none⟩ = some (.slice p2 r2.length d2) := by simpa using q2
          obtain ⟨wm, hwm⟩ : ∃ wm, w.drewN m = wm := ⟨_, rfl⟩
          rw [hwm] at HW t1 t2 ⊢
          have HWM := Lib.hid hwm
          clear hwm
          go_quiet ((go_at_call 41; refine Calls.quiet_of (eq64b _ (HN1.out.later ((HW.out _).trans (below_drewN (Below.refl _ _) _))) (HN2.out.later ((HW.out _).trans (below_drewN (Below.refl _ _) _))) (by omega) true HD.out)))
          go_wp2_with fail
          go_roundw
          case rel => exact ⟨k + 1, _, by go_num, by omega, by rw [← HWM.out, World.drewN_drewN], HT⟩
          case measure => simp [intOf]; omega
        · have HD : Hid (decide (r1 = r2) = false) := Lib.hid (decide_eq_false he)
          have HT : Hid (b = false) := Lib.hid (HB.out.symm.trans (decide_eq_false (fun e => he (by rw [e, g2] at g1; injection g1 with g1; exact g1.symm))))
          clear g1 g2 he
          go_wp2_with fail
          have HW : Hid (∀ B, Below B w (w.drewN m)) := Lib.hid (fun B => below_drewN (Below.refl _ _) _)
          have t1 : (w.drewN m).cell? ⟨b1, o1 + k, none⟩ = some (.slice p1 r1.length d1) := by simpa using q1
          have t2 : (w.drewN m).cell? ⟨b2, o2 + k, none⟩ = some (.slice p2 r2.length d2) := by simpa using q2
          obtain ⟨wm, hwm⟩ : ∃ wm, w.drewN m = wm := ⟨_, rfl⟩
          rw [hwm] at HW t1 t2 ⊢
          have HWM := Lib.hid hwm
          clear hwm
          go_quiet ((go_at_call 41; refine Calls.quiet_of (eq64b _ (HN1.out.later ((HW.out _).trans (below_drewN (Below.refl _ _) _))) (HN2.out.later ((HW.out _).trans (below_drewN (Below.refl _ _) _))) (by omega) false HD.out)))
          go_wp2_with fail
          go_ret
          exact ⟨ret_boolE HT.out.symm, by first | exact below_drewN (HW.out _) _ | exact below_drewN (Below.refl _ _) _ | exact below_drewN (below_drewN (Below.refl _ _) _) _ | exact below_drewN (below_drewN (below_drewN (Below.refl _ _) _) _) _⟩
      · obtain rfl : k = n1 := by omega
        have HT : Hid (b = true) := Lib.hid (HB.out.symm.trans (decide_eq_true (upTo_all (by rw [HE1.out]; exact HS.out) (by rw [HE1.out, HE2.out]))))
        go_wp2_with fail
        go_ret
        exact ⟨ret_boolE HT.out.symm, below_drewN (Below.refl _ _) _⟩
  · have HT : Hid (b = false) := Lib.hid (HB.out.symm.trans (decide_eq_false (fun e => hl (by rw [← e1, ← e2, e]))))
    have hd : ((n1 : Int) != (n2 : Int)) = true := by simp; omega
    clear hl
    go_enter Tryd.func40, Tryd.ntmps40
    go_wp2_with fail
    go_ret
    exact ⟨ret_boolE HT.out.symm, Below.refl _ _⟩
end Go.Proofs.YtnnddmojcaicbaaDoor
