/- What Of of package set answers. -/
import Derived.Test.YtmnbpnjakbihdaaRows
import Derived.Test.YtmnbpnjakbihdaaPlain
import Derived.Test.YtmnbpnjakbihdaaBits
import Derived.WalkKit
import Derived.Laws.BitsAllLaws
import Derived.Laws.Shifts
import Derived.Lib.Hide
import Derived.Test.YtmnbpnjakbihdaaSetW
namespace Go.Proofs.Ytmnbpnjakbihdaa
open Go.RowKit

/-- A row of len numbers. -/
def Row (w : World) (a : Option Addr) (zs : List Int) : Prop :=
  zs.length = 0 ∨ ∃ b off, a = some ⟨b, off, none⟩ ∧ ∀ j, j < zs.length → w.cell? ⟨b, off + j, none⟩ = some (.int .i64 (zs.getD j 0))
theorem take_snoc_getD (l : List Int) (k : Nat) (h : k < l.length) : l.take (k + 1) = l.take k ++ [l.getD k 0] := by
  rw [List.take_succ_eq_append_getElem h]
  simp [List.getD_eq_getElem?_getD, List.getElem?_eq_getElem h]
theorem of_none (a : Option Addr) (cap : Nat) (w : World) : Calls Try.prog 65 #[.slice a 0 cap] w fun e w' => e = .returned (.int .u64 (ofN [] : Nat)) ∧ w = w' := by
  go_enter Try.func65, Try.ntmps65
  go_wp2
  refine wp_loop_rounds 1 ?_
  rw [rounds_succ]
  go_wp2
  go_ret
  exact ⟨rfl, rfl⟩
theorem of_some (b off cap : Nat) (zs : List Int) (w : World) (hbig : zs.length ≤ 9223372036854775807) (hc : ∀ j, j < zs.length → w.cell? ⟨b, off + j, none⟩ = some (.int .i64 (zs.getD j 0))) :
    Calls Try.prog 65 #[.slice (some ⟨b, off, none⟩) zs.length cap] w fun e w' => e = .returned (.int .u64 (ofN zs : Nat)) ∧ w = w' := by
  have HC := Lib.hid hc; clear hc
  obtain ⟨len, hlen⟩ : ∃ len, len = zs.length := ⟨_, rfl⟩
  rw [← hlen] at hbig ⊢
  have HL := Lib.hid hlen; clear hlen
  go_enter Try.func65, Try.ntmps65
  go_wp2
  go_loop [3, 8] (fun s i => ∃ k : Nat, k ≤ len ∧ i = .int .i64 k ∧ s = .int .u64 (ofN (zs.take k) : Nat)) (fun _ i => len - (intOf i).toNat)
  case atStart => exact ⟨0, Nat.zero_le _, rfl, rfl⟩
  case round =>
    obtain ⟨k, hk, rfl, rfl⟩ := hrel
    by_cases hlt : k < len
    · have hcell := HC.out k (by rw [← HL.out]; exact hlt)
      have hn := Lib.hid (ofN_lt (zs.take k))
      have e1 : Hid (ofN (zs.take (k + 1)) = withN (ofN (zs.take k)) (zs.getD k 0)) := Lib.hid (by rw [take_snoc_getD _ _ (by rw [← HL.out]; exact hlt), ofN_snoc])
      generalize zs.getD k 0 = x at hcell e1
      generalize ofN (zs.take k) = s at hn e1
      go_wp2_with (go_at_call 63; refine (with_any _ hn.out _ _).mono ?_; rintro e w' ⟨rfl, rfl⟩)
      go_round
      case rel => exact ⟨k + 1, by omega, by go_num, by rw [e1.out]⟩
      case measure => simp [intOf]; omega
    · obtain rfl : k = len := by omega
      have hz : Hid (zs.take k = zs) := Lib.hid (by rw [HL.out, List.take_length])
      go_wp2
      go_ret
      exact ⟨by rw [hz.out]; rfl, rfl⟩
theorem of_any (a : Option Addr) (len cap : Nat) (zs : List Int) (w : World) (hz : len = zs.length) (hbig : len ≤ 9223372036854775807) (h : Row w a zs) : Calls Try.prog 65 #[.slice a len cap] w fun e w' => e = .returned (.int .u64 (ofN zs : Nat)) ∧ w = w' := by
  subst hz
  rcases h with h | ⟨b, off, rfl, hc⟩
  · obtain rfl : zs = [] := List.eq_nil_of_length_eq_zero h
    exact of_none _ _ _
  · exact of_some b off cap zs w hbig hc
end Go.Proofs.Ytmnbpnjakbihdaa
