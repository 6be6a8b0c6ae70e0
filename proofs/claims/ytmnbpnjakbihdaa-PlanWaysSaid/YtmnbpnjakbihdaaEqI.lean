/- slices.Equal over rows of numbers (int), as they came in. -/
import Derived.Test.YtmnbpnjakbihdaaPiRow
import Derived.Test.YtmnbpnjakbihdaaUpTo
import Derived.Test.YtmnbpnjakbihdaaRows
import Derived.Lib.Hide
import Derived.IntWalk
import Derived.WalkKit
import Derived.Deep.QuietTactic
import Derived.Deep.LoopGhost
import Derived.LoopTactic
namespace Go.Proofs.Ytmnbpnjakbihdaa
open Go.RowKit

variable {w : World} {a1 a2 : Option Addr} {n1 n2 c1 c2 B1 B2 : Nat}

set_option maxHeartbeats 1000000 in
theorem eqI_any {l1 l2 : List Int} (w : World) (h1 : IsNums B1 w a1 n1 l1) (h2 : IsNums B2 w a2 n2 l2) (hn : n1 ≤ 1000000) :
    Calls Try.prog 20 #[.slice a1 n1 c1, .slice a2 n2 c2] w fun e w' => e = .returned (.bool (decide (l1 = l2))) ∧ ∃ m, w' = w.drewN m := by
  have H1 := Lib.hid h1
  have H2 := Lib.hid h2
  have e1 := h1.1
  have e2 := h2.1
  clear h1 h2
  by_cases hl : n1 = n2
  · subst hl
    have HS0 : Hid (upTo l1 l2 0) := Lib.hid (fun j hj => by omega)
    go_enter Try.func20, Try.ntmps20
    go_wp2_with fail
    go_loopw [13] (fun i wr => ∃ k m : Nat, i = .int .i64 k ∧ k ≤ n1 ∧ wr = w.drewN m ∧ Hid (upTo l1 l2 k)) (fun i _ => n1 - (intOf i).toNat)
    case atStart => exact ⟨0, 0, rfl, Nat.zero_le _, rfl, HS0⟩
    case round =>
      obtain ⟨k, m, rfl, hk, rfl, HS⟩ := hrel
      clear HS0
      by_cases hlt : k < n1
      · obtain ⟨b1, o1, x1, rfl, g1, q1⟩ := H1.out.at_ hlt
        obtain ⟨b2, o2, x2, rfl, g2, q2⟩ := H2.out.at_ hlt
        by_cases he : x1 = x2
        · subst he
          have HT : Hid (upTo l1 l2 (k + 1)) := Lib.hid (upTo_next HS.out (g1.trans g2.symm))
          clear g1 g2
          go_wp2_with fail
          go_quiet (fail)
          go_wp2_with fail
          go_roundw
          case rel => exact ⟨k + 1, _, by go_num, by omega, rfl, HT⟩
          case measure => simp [intOf]; omega
        · have HT : Hid (decide (l1 = l2) = false) := Lib.hid (decide_eq_false (fun e => he (by rw [e, g2] at g1; injection g1 with g1; exact g1.symm)))
          clear g1 g2
          have he2 : (x1 != x2) = true := by simpa using he
          clear he
          go_wp2_with fail
          go_quiet (fail)
          go_wp2_with fail
          go_ret
          exact ⟨ret_boolE HT.out.symm, _, by first | rfl | exact World.drewN_drewN ..⟩
      · obtain rfl : k = n1 := by omega
        have HT : Hid (decide (l1 = l2) = true) := Lib.hid (decide_eq_true (upTo_all (by rw [e1]; exact HS.out) (by omega)))
        go_wp2_with fail
        go_ret
        exact ⟨ret_boolE HT.out.symm, _, by first | rfl | exact World.drewN_drewN ..⟩
  · have HT : Hid (decide (l1 = l2) = false) := Lib.hid (decide_eq_false (fun e => hl (by rw [← e1, ← e2, e])))
    have hd : ((n1 : Int) != (n2 : Int)) = true := by simp; omega
    clear hl
    go_enter Try.func20, Try.ntmps20
    go_wp2_with fail
    go_ret
    exact ⟨ret_boolE HT.out.symm, 0, rfl⟩
theorem eqI_same {l1 l2 : List Int} (w : World) (h1 : IsNums B1 w a1 n1 l1) (h2 : IsNums B2 w a2 n2 l2) (hn : n1 ≤ 1000000) (e : l1 = l2) :
    Calls Try.prog 20 #[.slice a1 n1 c1, .slice a2 n2 c2] w fun e w' => e = .returned (.bool true) ∧ Below w.heap.size w w' := by
  refine (eqI_any w h1 h2 hn).mono ?_
  rintro e w' ⟨rfl, m, rfl⟩
  subst e
  exact ⟨by simp, ⟨rfl, rfl, rfl, Nat.le_refl _, fun _ _ => rfl⟩⟩
end Go.Proofs.Ytmnbpnjakbihdaa
