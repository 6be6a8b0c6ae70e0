/- slices.Equal of two rows of the same numbers (int). -/
import Derived.Test.YtgoegkajfhhcjaaOwn
import Derived.Lib.Hide
namespace Go.Proofs.Ytgoegkajfhhcjaa
open Go.RowKit

variable {w : World}
set_option maxHeartbeats 1000000 in
theorem eqInts {B C : Nat} {t : List Int} {a b : Option Addr} {ca cb : Nat} (h1 : w.ownsRow B 3 1 (.slice a t.length ca) t.length (numsV t)) (h2 : w.ownsRow C 3 1 (.slice b t.length cb) t.length (numsV t)) (ht : t.length ≤ 1000000) :
    Calls Try.prog 12 #[.slice a t.length ca, .slice b t.length cb] w fun e w' => e = .returned (.bool true) ∧ ∃ m, w' = w.drewN m := by
  have H1 := Lib.hid h1
  have H2 := Lib.hid h2
  clear h1 h2
  go_enter Try.func12, Try.ntmps12
  go_wp2_with fail
  go_loopw [13] (fun i wr => ∃ k m : Nat, i = .int .i64 k ∧ k ≤ t.length ∧ wr = w.drewN m) (fun i _ => t.length - (intOf i).toNat)
  case atStart => exact ⟨0, 0, rfl, Nat.zero_le _, rfl⟩
  case round =>
    obtain ⟨k, m, rfl, hk, rfl⟩ := hrel
    by_cases hlt : k < t.length
    · obtain ⟨x, hx⟩ : ∃ x, t[k]? = some x := ⟨_, List.getElem?_eq_getElem hlt⟩
      obtain ⟨g1, q1, e1, _, _, hc1, hm1⟩ := owns_some H1.out (by omega)
      obtain ⟨g2, q2, e2, _, _, hc2, hm2⟩ := owns_some H2.out (by omega)
      injection e1 with e1 _ e3
      injection e2 with e2 _ e4
      subst e1 e2 e3 e4
      have c1 := nums_cell H1.out hx
      have c2 := nums_cell H2.out hx
      clear hx
      unfold maxLen at hm1 hm2
      go_wp2_with fail
      go_quiet (fail)
      go_wp2_with fail
      go_roundw
      case rel => exact ⟨k + 1, _, by go_num, by omega, rfl⟩
      case measure => simp [intOf]; omega
    · go_wp2_with fail
      go_ret
      exact ⟨rfl, _, rfl⟩
theorem eqIntsAt {B C m : Nat} {t : List Int} {a b : Option Addr} {ca cb : Nat} (hm : t.length = m) (h1 : w.ownsRow B 3 1 (.slice a m ca) t.length (numsV t)) (h2 : w.ownsRow C 3 1 (.slice b m cb) t.length (numsV t)) (ht : t.length ≤ 1000000) :
    Calls Try.prog 12 #[.slice a m ca, .slice b m cb] w fun e w' => e = .returned (.bool true) ∧ Below w.heap.size w w' := by
  subst hm
  exact (eqInts h1 h2 ht).mono fun e w' ⟨he, q, hq⟩ => ⟨he, by rw [hq]; exact below_drewN (Below.refl _ _) q⟩
end Go.Proofs.Ytgoegkajfhhcjaa
