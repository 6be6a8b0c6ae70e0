/- What Has of package set answers. -/
import Derived.Test.YtmnbpnjakbihdaaSetW
namespace Go.Proofs.Ytmnbpnjakbihdaa
open Go.RowKit

theorem has_any (s : Nat) (hs : s < 18446744073709551616) (n : Int) (w : World) : Calls Try.prog 62 #[.int .u64 (s : Nat), .int .i64 n] w fun e w' => e = .returned (.bool (hasN s n)) ∧ w = w' := by
  have hv := Lib.hid (u64_and_nat s (onlyN n) hs (onlyN_lt n))
  have hl := onlyN_lt n
  have ht : Hid ((((s &&& onlyN n : Nat) : Int) != 0) = hasN s n) := Lib.hid (by
    have h := has_and s n
    cases hb : hasN s n with
    | true =>
      rw [hb] at h
      have : ¬ (s &&& onlyN n) = 0 := fun e => by simpa using h.1 e
      simp; omega
    | false =>
      have := h.2 hb
      rw [this]; rfl)
  go_enter Try.func62, Try.ntmps62
  go_wp2_with (go_at_call 72; refine (only_any _ _).mono ?_; rintro e w' ⟨rfl, rfl⟩)
  go_ret
  exact ⟨by rw [← ht.out, ← hv.out]; rfl, rfl⟩
end Go.Proofs.Ytmnbpnjakbihdaa
