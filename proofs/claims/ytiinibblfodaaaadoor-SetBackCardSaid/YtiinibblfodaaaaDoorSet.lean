/- What With, Without, And, Or, Less and Of of package set answer. -/
import Derived.Test.YtiinibblfodaaaaDoorRows
import Derived.Test.YtiinibblfodaaaaDoorPlain
import Derived.Test.YtiinibblfodaaaaDoorBits
import Derived.WalkKit
import Derived.Laws.BitsAllLaws
import Derived.Laws.Shifts
import Derived.Lib.Hide
namespace Go.Proofs.YtiinibblfodaaaaDoor
open Go.RowKit

theorem shl_one (n : Int) (h0 : 0 ≤ n) (h1 : n < 64) : IntKind.u64.wrap (2 ^ n.toNat) = ((onlyN n : Nat) : Int) := by
  have e : onlyN n = 2 ^ n.toNat := if_pos ⟨h0, h1⟩
  have hl := onlyN_lt n
  rw [e] at hl ⊢
  rw [IntKind.wrap_u64]
  have e2 : ((2 ^ n.toNat : Nat) : Int) = (2 : Int) ^ n.toNat := by simp
  rw [← e2]
  omega

theorem only_any (n : Int) (w : World) : Calls Tryd.prog 19 #[.int .i64 n] w fun e w' => e = .returned (.int .u64 (onlyN n : Nat)) ∧ w = w' := by
  by_cases h0 : n < 0
  · have hv : Hid (onlyN n = 0) := Lib.hid (if_neg (by omega))
    go_enter Tryd.func19, Tryd.ntmps19
    go_wp2
    go_ret
    exact ⟨by rw [hv.out]; rfl, rfl⟩
  · by_cases h1 : n < 64
    · have p0 : 0 ≤ n := by omega
      have hv := Lib.hid (shl_one n p0 h1)
      go_enter Tryd.func19, Tryd.ntmps19
      go_wp2
      go_ret
      exact ⟨by rw [← hv.out]; rfl, rfl⟩
    · have hv : Hid (onlyN n = 0) := Lib.hid (if_neg (by omega))
      have p1 : 64 ≤ n := by omega
      go_enter Tryd.func19, Tryd.ntmps19
      go_wp2
      go_ret
      exact ⟨by rw [hv.out]; rfl, rfl⟩

theorem with_any (s : Nat) (hs : s < 18446744073709551616) (n : Int) (w : World) : Calls Tryd.prog 18 #[.int .u64 (s : Nat), .int .i64 n] w fun e w' => e = .returned (.int .u64 (withN s n : Nat)) ∧ w = w' := by
  have hv := Lib.hid (u64_or_nat s (onlyN n) hs (onlyN_lt n))
  have hl := onlyN_lt n
  go_enter Tryd.func18, Tryd.ntmps18
  go_wp2_with (go_at_call 19; refine (only_any _ _).mono ?_; rintro e w' ⟨rfl, rfl⟩)
  go_ret
  exact ⟨ret_int hv.out, rfl⟩
theorem without_any (s : Nat) (hs : s < 18446744073709551616) (n : Int) (w : World) : Calls Tryd.prog 17 #[.int .u64 (s : Nat), .int .i64 n] w fun e w' => e = .returned (.int .u64 (withoutN s n : Nat)) ∧ w = w' := by
  have hv := Lib.hid (u64_andNot_nat s (onlyN n) hs (onlyN_lt n))
  have hl := onlyN_lt n
  go_enter Tryd.func17, Tryd.ntmps17
  go_wp2_with (go_at_call 19; refine (only_any _ _).mono ?_; rintro e w' ⟨rfl, rfl⟩)
  go_ret
  exact ⟨ret_int hv.out, rfl⟩
theorem and_any (s o : Nat) (hs : s < 18446744073709551616) (ho : o < 18446744073709551616) (w : World) : Calls Tryd.prog 12 #[.int .u64 (s : Nat), .int .u64 (o : Nat)] w fun e w' => e = .returned (.int .u64 (s &&& o : Nat)) ∧ w = w' := by
  have hv := Lib.hid (u64_and_nat s o hs ho)
  go_enter Tryd.func12, Tryd.ntmps12
  go_wp2
  go_ret
  exact ⟨ret_int hv.out, rfl⟩
theorem or_any (s o : Nat) (hs : s < 18446744073709551616) (ho : o < 18446744073709551616) (w : World) : Calls Tryd.prog 13 #[.int .u64 (s : Nat), .int .u64 (o : Nat)] w fun e w' => e = .returned (.int .u64 (s ||| o : Nat)) ∧ w = w' := by
  have hv := Lib.hid (u64_or_nat s o hs ho)
  go_enter Tryd.func13, Tryd.ntmps13
  go_wp2
  go_ret
  exact ⟨ret_int hv.out, rfl⟩
theorem less_any (s o : Nat) (hs : s < 18446744073709551616) (ho : o < 18446744073709551616) (w : World) : Calls Tryd.prog 14 #[.int .u64 (s : Nat), .int .u64 (o : Nat)] w fun e w' => e = .returned (.int .u64 (lessN s o : Nat)) ∧ w = w' := by
  have hv := Lib.hid (u64_andNot_nat s o hs ho)
  go_enter Tryd.func14, Tryd.ntmps14
  go_wp2
  go_ret
  exact ⟨ret_int hv.out, rfl⟩

/-- A row of len numbers. -/
def Row (w : World) (a : Option Addr) (zs : List Int) : Prop :=
  zs.length = 0 ∨ ∃ b off, a = some ⟨b, off, none⟩ ∧ ∀ j, j < zs.length → w.cell? ⟨b, off + j, none⟩ = some (.int .i64 (zs.getD j 0))
theorem take_snoc_getD (l : List Int) (k : Nat) (h : k < l.length) : l.take (k + 1) = l.take k ++ [l.getD k 0] := by
  rw [List.take_succ_eq_append_getElem h]
  simp [List.getD_eq_getElem?_getD, List.getElem?_eq_getElem h]
theorem of_none (a : Option Addr) (cap : Nat) (w : World) : Calls Tryd.prog 11 #[.slice a 0 cap] w fun e w' => e = .returned (.int .u64 (ofN [] : Nat)) ∧ w = w' := by
  go_enter Tryd.func11, Tryd.ntmps11
  go_wp2
  refine wp_loop_rounds 1 ?_
  rw [rounds_succ]
  go_wp2
  go_ret
  exact ⟨rfl, rfl⟩
theorem of_some (b off cap : Nat) (zs : List Int) (w : World) (hbig : zs.length ≤ 9223372036854775807) (hc : ∀ j, j < zs.length → w.cell? ⟨b, off + j, none⟩ = some (.int .i64 (zs.getD j 0))) :
    Calls Tryd.prog 11 #[.slice (some ⟨b, off, none⟩) zs.length cap] w fun e w' => e = .returned (.int .u64 (ofN zs : Nat)) ∧ w = w' := by
  have HC := Lib.hid hc; clear hc
  obtain ⟨len, hlen⟩ : ∃ len, len = zs.length := ⟨_, rfl⟩
  rw [← hlen] at hbig ⊢
  have HL := Lib.hid hlen; clear hlen
  go_enter Tryd.func11, Tryd.ntmps11
  go_wp2
  go_loop [3, 8] (fun s i => ∃ k : Nat, k ≤ len ∧ i = .int .i64 k ∧ s = .int .u64 (ofN (zs.take k) : Nat)) (fun _ i => len - (intOf i).toNat)
  case atStart => exact ⟨0, Nat.zero_le _, rfl, rfl⟩
  case round =>
    obtain ⟨k, hk, rfl, rfl⟩ := hrel
    by_cases hlt : k < len
    · have hcell := HC.out k (by rw [← HL.out]; exact hlt)
      have hn := Lib.hid (ofN_lt (zs.take k))
      have e1 : Hid (ofN (zs.take (k + 1)) = withN (ofN (zs.take k)) (zs.getD k 0)) := Lib.hid (by rw [take_snoc_getD _ _ (by rw [← HL.out]; exact hlt), ofN_snoc])
      generalize zs.getD k 0 = x at hcell e1
      generalize ofN (zs.take k) = s at hn e1
      go_wp2_with (go_at_call 18; refine (with_any _ hn.out _ _).mono ?_; rintro e w' ⟨rfl, rfl⟩)
      go_round
      case rel => exact ⟨k + 1, by omega, by go_num, by rw [e1.out]⟩
      case measure => simp [intOf]; omega
    · obtain rfl : k = len := by omega
      have hz : Hid (zs.take k = zs) := Lib.hid (by rw [HL.out, List.take_length])
      go_wp2
      go_ret
      exact ⟨by rw [hz.out]; rfl, rfl⟩
theorem of_any (a : Option Addr) (len cap : Nat) (zs : List Int) (w : World) (hz : len = zs.length) (hbig : len ≤ 9223372036854775807) (h : Row w a zs) : Calls Tryd.prog 11 #[.slice a len cap] w fun e w' => e = .returned (.int .u64 (ofN zs : Nat)) ∧ w = w' := by
  subst hz
  rcases h with h | ⟨b, off, rfl, hc⟩
  · obtain rfl : zs = [] := List.eq_nil_of_length_eq_zero h
    exact of_none _ _ _
  · exact of_some b off cap zs w hbig hc
end Go.Proofs.YtiinibblfodaaaaDoor
