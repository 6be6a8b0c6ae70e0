/- What the library's OnesCount64 answers. -/
import Derived.Test.YtmnbpnjakbihdaaRows
import Derived.Test.YtmnbpnjakbihdaaPlain
import Derived.Test.YtmnbpnjakbihdaaCount
import Derived.WalkKit
import Derived.Laws.BitsAllLaws
import Derived.Laws.Shifts
import Derived.Lib.Hide
namespace Go.Proofs.Ytmnbpnjakbihdaa
open Go.RowKit

theorem wrap_u64_nat (n : Nat) (h : n < 18446744073709551616) : IntKind.u64.wrap (n : Int) = (n : Int) := by rw [IntKind.wrap_u64]; omega
theorem i64_and127 (a : Nat) (ha : a < 9223372036854775808) : bits .and .i64 (a : Int) 127 = ((a % 128 : Nat) : Int) := by
  have h1 : (BitVec.ofInt 64 (a : Int)).toNat = a := by
    rw [BitVec.ofInt_natCast, BitVec.toNat_ofNat]; exact Nat.mod_eq_of_lt (by omega)
  have h2 : (BitVec.ofInt 64 127).toNat = 2 ^ 7 - 1 := by decide
  show IntKind.i64.wrap ((BitVec.ofInt 64 (a : Int) &&& BitVec.ofInt 64 127).toNat : Int) = _
  rw [BitVec.toNat_and, h1, h2, Nat.and_two_pow_sub_one_eq_mod, IntKind.wrap_i64]
  omega
theorem s1_rep (x : Nat) : (x / 2 &&& 6148914691236517205) + (x &&& 6148914691236517205) = s1 8 x := by unfold s1; rw [rep55]
theorem s2_rep (x : Nat) : (x / 4 &&& 3689348814741910323) + (x &&& 3689348814741910323) = s2 8 x := by unfold s2; rw [rep33]
theorem s3_rep (x : Nat) : (x / 16 + x) &&& 1085102592571150095 = s3 8 x := by unfold s3; rw [rep0f]
theorem and_le (a m B : Nat) (h : m < B) : a &&& m < B := Nat.lt_of_le_of_lt Nat.and_le_right h

theorem ones_any (x : Nat) (hx : x < 18446744073709551616) (w : World) : Calls Try.prog 66 #[.int .u64 x] w fun e w' => e = .returned (.int .i64 ((allN x).length : Nat)) ∧ w = w' := by
  obtain ⟨hv, y, z, t, hy, hz, ht, ly, lz, lt, hl⟩ := last_steps x
  have hs1 := s1_rep x
  have e1 := u64_and_nat (x / 2) 6148914691236517205 (by omega) (by omega)
  have e2 := u64_and_nat x 6148914691236517205 hx (by omega)
  have l1 := and_le (x / 2) 6148914691236517205 6148914691236517206 (by omega)
  have l2 := and_le x 6148914691236517205 6148914691236517206 (by omega)
  generalize (x / 2 &&& 6148914691236517205) = a1 at hs1 e1 l1
  generalize (x &&& 6148914691236517205) = a2 at hs1 e2 l2
  have e3 := wrap_u64_nat (a1 + a2) (by omega)
  have hs12 : s123 8 x = s3 8 (s2 8 (s1 8 x)) := rfl
  rw [hs12] at hv hy
  rw [hs1] at e3
  have lA : s1 8 x < 18446744073709551616 := by omega
  have c3 : ((a1 + a2 : Nat) : Int) = (a1 : Int) + (a2 : Int) := by simp
  generalize s1 8 x = A at hv hy e3 lA hs1
  have hs2 := s2_rep A
  have e4 := u64_and_nat (A / 4) 3689348814741910323 (by omega) (by omega)
  have e5 := u64_and_nat A 3689348814741910323 lA (by omega)
  have l4 := and_le (A / 4) 3689348814741910323 3689348814741910324 (by omega)
  have l5 := and_le A 3689348814741910323 3689348814741910324 (by omega)
  generalize (A / 4 &&& 3689348814741910323) = b1 at hs2 e4 l4
  generalize (A &&& 3689348814741910323) = b2 at hs2 e5 l5
  have e6 := wrap_u64_nat (b1 + b2) (by omega)
  rw [hs2] at e6
  have lB : s2 8 A < 8000000000000000000 := by omega
  generalize s2 8 A = B at hv hy e6 lB hs2
  have hs3 := s3_rep B
  have e7 := wrap_u64_nat (B / 16 + B) (by omega)
  have e8 := u64_and_nat (B / 16 + B) 1085102592571150095 (by omega) (by omega)
  rw [hs3] at e8
  generalize s3 8 B = D at hv hy e8 hs3
  have e9 := wrap_u64_nat (D + D / 256) (by omega)
  rw [← hy] at e9
  have e10 := wrap_u64_nat (y + y / 65536) (by omega)
  rw [← hz] at e10
  have e11 := wrap_u64_nat (z + z / 4294967296) (by omega)
  rw [← ht] at e11
  have e12 := i64_and127 t (by omega)
  rw [hl] at e12
  have E1 : bits .and .u64 ((x : Int) / 2) 6148914691236517205 = (a1 : Int) := by simpa using e1
  have E2 : bits .and .u64 (x : Int) 6148914691236517205 = (a2 : Int) := by simpa using e2
  have E3 : IntKind.u64.wrap ((a1 : Int) + (a2 : Int)) = (A : Int) := by rw [show (a1 : Int) + (a2 : Int) = (A : Int) by omega]; exact e3
  have E4 : bits .and .u64 ((A : Int) / 4) 3689348814741910323 = (b1 : Int) := by simpa using e4
  have E5 : bits .and .u64 (A : Int) 3689348814741910323 = (b2 : Int) := by simpa using e5
  have E6 : IntKind.u64.wrap ((b1 : Int) + (b2 : Int)) = (B : Int) := by rw [show (b1 : Int) + (b2 : Int) = (B : Int) by omega]; exact e6
  obtain ⟨C, hC⟩ : ∃ C, C = B / 16 + B := ⟨_, rfl⟩
  rw [← hC] at e7 e8
  have E7 : IntKind.u64.wrap ((B : Int) / 16 + (B : Int)) = (C : Int) := by rw [show (B : Int) / 16 + (B : Int) = (C : Int) by omega]; exact e7
  have E8 : bits .and .u64 (C : Int) 1085102592571150095 = (D : Int) := by simpa using e8
  have E9 : IntKind.u64.wrap ((D : Int) + (D : Int) / 256) = (y : Int) := by rw [show (D : Int) + (D : Int) / 256 = (y : Int) by omega]; exact e9
  have E10 : IntKind.u64.wrap ((y : Int) + (y : Int) / 65536) = (z : Int) := by rw [show (y : Int) + (y : Int) / 65536 = (z : Int) by omega]; exact e10
  have E11 : IntKind.u64.wrap ((z : Int) + (z : Int) / 4294967296) = (t : Int) := by rw [show (z : Int) + (z : Int) / 4294967296 = (t : Int) by omega]; exact e11
  have E12 := Lib.hid e12
  have lt2 : (t : Int) ≤ 9223372036854775807 := by omega
  clear hx e1 e2 e3 e4 e5 e6 e7 e8 e9 e10 e11 e12 l1 l2 l4 l5 lA lB hs1 hs2 hs3 hC hy hz ht hl hv ly lz lt hs12 c3
  go_enter Try.func66, Try.ntmps66
  go_wp2
  go_ret
  exact ⟨ret_int E12.out, rfl⟩
end Go.Proofs.Ytmnbpnjakbihdaa
