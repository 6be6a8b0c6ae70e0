/- What Len of package set answers. -/
import Derived.Test.YtmnbpnjakbihdaaOnes
namespace Go.Proofs.Ytmnbpnjakbihdaa
open Go.RowKit

theorem len_any (s : Nat) (hs : s < 18446744073709551616) (w : World) : Calls Try.prog 39 #[.int .u64 (s : Nat)] w fun e w' => e = .returned (.int .i64 ((allN s).length : Nat)) ∧ w = w' := by
  have HS := Lib.hid hs; clear hs
  go_enter Try.func39, Try.ntmps39
  go_wp2_with (go_at_call 66; refine (ones_any _ HS.out _).mono ?_; rintro e w' ⟨rfl, rfl⟩)
  go_ret
  exact ⟨rfl, rfl⟩
end Go.Proofs.Ytmnbpnjakbihdaa
