/- What With of package set answers. -/
import Derived.Test.YtmnbpnjakbihdaaRows
import Derived.Test.YtmnbpnjakbihdaaPlain
import Derived.Test.YtmnbpnjakbihdaaBits
import Derived.WalkKit
import Derived.Laws.BitsAllLaws
import Derived.Laws.Shifts
import Derived.Lib.Hide
namespace Go.Proofs.Ytmnbpnjakbihdaa
open Go.RowKit

theorem shl_one (n : Int) (h0 : 0 ≤ n) (h1 : n < 64) : IntKind.u64.wrap (2 ^ n.toNat) = ((onlyN n : Nat) : Int) := by
  have e : onlyN n = 2 ^ n.toNat := if_pos ⟨h0, h1⟩
  have hl := onlyN_lt n
  rw [e] at hl ⊢
  rw [IntKind.wrap_u64]
  have e2 : ((2 ^ n.toNat : Nat) : Int) = (2 : Int) ^ n.toNat := by simp
  rw [← e2]
  omega

theorem only_any (n : Int) (w : World) : Calls Try.prog 72 #[.int .i64 n] w fun e w' => e = .returned (.int .u64 (onlyN n : Nat)) ∧ w = w' := by
  by_cases h0 : n < 0
  · have hv : Hid (onlyN n = 0) := Lib.hid (if_neg (by omega))
    go_enter Try.func72, Try.ntmps72
    go_wp2
    go_ret
    exact ⟨by rw [hv.out]; rfl, rfl⟩
  · by_cases h1 : n < 64
    · have p0 : 0 ≤ n := by omega
      have hv := Lib.hid (shl_one n p0 h1)
      go_enter Try.func72, Try.ntmps72
      go_wp2
      go_ret
      exact ⟨by rw [← hv.out]; rfl, rfl⟩
    · have hv : Hid (onlyN n = 0) := Lib.hid (if_neg (by omega))
      have p1 : 64 ≤ n := by omega
      go_enter Try.func72, Try.ntmps72
      go_wp2
      go_ret
      exact ⟨by rw [hv.out]; rfl, rfl⟩

theorem with_any (s : Nat) (hs : s < 18446744073709551616) (n : Int) (w : World) : Calls Try.prog 63 #[.int .u64 (s : Nat), .int .i64 n] w fun e w' => e = .returned (.int .u64 (withN s n : Nat)) ∧ w = w' := by
  have hv := Lib.hid (u64_or_nat s (onlyN n) hs (onlyN_lt n))
  have hl := onlyN_lt n
  go_enter Try.func63, Try.ntmps63
  go_wp2_with (go_at_call 72; refine (only_any _ _).mono ?_; rintro e w' ⟨rfl, rfl⟩)
  go_ret
  exact ⟨ret_int hv.out, rfl⟩
end Go.Proofs.Ytmnbpnjakbihdaa
