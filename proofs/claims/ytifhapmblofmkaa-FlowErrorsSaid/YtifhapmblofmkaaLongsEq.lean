/- slices.Equal of two rows of numbers (int64) of the call's own: whether they are the same. -/
import Derived.Test.YtifhapmblofmkaaLongRow
import Derived.Deep.QuietTactic
namespace Go.Proofs.Ytifhapmblofmkaa
open Go.RowKit

variable {w : World} {B C g1 g2 N c1 c2 : Nat} {f1 f2 : Nat → Int}
/-- Are the first N the same? -/
def sameN (f1 f2 : Nat → Int) : Nat → Bool
  | 0 => true
  | n + 1 => sameN f1 f2 n && decide (f1 n = f2 n)
theorem sameN_true : ∀ {n : Nat}, sameN f1 f2 n = true ↔ ∀ i, i < n → f1 i = f2 i
  | 0 => by simp [sameN]
  | n + 1 => by
    rw [sameN, Bool.and_eq_true, decide_eq_true_eq, sameN_true]
    constructor
    · intro h i hi
      by_cases e : i = n
      · subst e; exact h.2
      · exact h.1 i (by omega)
    · intro h
      exact ⟨fun i hi => h i (by omega), h n (by omega)⟩
theorem sameN_not {k n : Nat} (h : ¬ f1 k = f2 k) (hk : k < n) : sameN f1 f2 n = false := by
  cases e : sameN f1 f2 n with
  | false => rfl
  | true => exact absurd (sameN_true.1 e k hk) h
theorem ret_boolE {p q : Bool} (h : p = q) : Ending.returned (.bool p) = .returned (.bool q) := by rw [h]

set_option maxHeartbeats 1000000 in
theorem eqRows (h1 : LongRow w B (.slice (some ⟨g1, 0, none⟩) N c1) N f1) (h2 : LongRow w C (.slice (some ⟨g2, 0, none⟩) N c2) N f2) (hN : N ≤ 1000000) :
    Calls Try.prog 19 #[.slice (some ⟨g1, 0, none⟩) N c1, .slice (some ⟨g2, 0, none⟩) N c2] w fun e w' => e = .returned (.bool (sameN f1 f2 N)) ∧ Below w.heap.size w w' := by
  have H1 := Lib.hid h1
  have H2 := Lib.hid h2
  by_cases h0 : 0 < N
  · obtain ⟨hc1, hm1⟩ := h1.cap_ h0
    obtain ⟨hc2, hm2⟩ := h2.cap_ h0
    unfold maxLen at hm1 hm2
    clear h1 h2
    have HS0 : Hid (sameN f1 f2 0 = true) := Lib.hid rfl
    go_enter Try.func19, Try.ntmps19
    go_wp2_with fail
    go_loopw [13] (fun i wr => ∃ k m : Nat, i = .int .i64 k ∧ k ≤ N ∧ wr = w.drewN m ∧ Hid (sameN f1 f2 k = true)) (fun i _ => N - (intOf i).toNat)
    case atStart => exact ⟨0, 0, rfl, Nat.zero_le _, rfl, HS0⟩
    case round =>
      obtain ⟨k, m, rfl, hk, rfl, HS⟩ := hrel
      clear HS0
      by_cases hlt : k < N
      · have q1 := H1.out.cell hlt
        have q2 := H2.out.cell hlt
        by_cases he : f1 k = f2 k
        · have HT : Hid (sameN f1 f2 (k + 1) = true) := Lib.hid (by rw [sameN, HS.out, decide_eq_true he]; rfl)
          rw [← he] at q2
          clear he
          generalize f1 k = a at q1 q2
          go_wp2_with fail
          go_quiet (fail)
          go_wp2_with fail
          go_roundw
          case rel => exact ⟨k + 1, _, by go_num, by omega, rfl, HT⟩
          case measure => simp [intOf]; omega
        · have HT := Lib.hid (sameN_not he hlt)
          generalize f1 k = a at q1 he
          generalize f2 k = b at q2 he
          have he2 : (a != b) = true := by simpa using he
          clear he
          go_wp2_with fail
          go_quiet (fail)
          go_wp2_with fail
          go_ret
          exact ⟨ret_boolE HT.out.symm, by first | exact below_drewN (Below.refl _ _) _ | exact below_drewN (below_drewN (Below.refl _ _) _) _⟩
      · obtain rfl : k = N := by omega
        go_wp2_with fail
        go_ret
        exact ⟨ret_boolE HS.out.symm, below_drewN (Below.refl _ _) _⟩
  · obtain rfl : N = 0 := by omega
    clear h1 h2
    go_enter Try.func19, Try.ntmps19
    go_wp2_with fail
    refine wp_loop_rounds 1 ?_
    rw [rounds_succ]
    go_wp2_with fail
    go_ret
    exact ⟨rfl, Below.refl _ _⟩
end Go.Proofs.Ytifhapmblofmkaa
