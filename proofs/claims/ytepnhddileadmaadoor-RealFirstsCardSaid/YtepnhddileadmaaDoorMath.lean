/- What package math's small functions answer, by a float's word. -/
import Derived.Test.YtepnhddileadmaaDoorRows
import Derived.Test.YtepnhddileadmaaDoorPlain
import Derived.Test.YtepnhddileadmaaDoorFloatOps
import Derived.WalkKit
import Derived.WalkLawsBesides
import Derived.Laws.Externs
import Derived.Lib.Hide
namespace Go.Proofs.YtepnhddileadmaaDoor
open Go.RowKit
open Ieee (double)

theorem bits_run (b : Nat) (w : World) : (callFunc 30 #[.float .f64 b]).run Tryd.prog w = .ok (.value (.int .u64 (b : Int))) w := by
  rw [run_callFunc_extern (e := Extern.MathFloatBits.float64bits) Tryd.func30 (by kernel_rfl) (by kernel_rfl) (by kernel_rfl) (by kernel_rfl)]; rfl
theorem frombits_run (n : Int) (w : World) : (callFunc 29 #[.int .u64 n]).run Tryd.prog w = .ok (.value (.float .f64 n.toNat)) w := by
  rw [run_callFunc_extern (e := Extern.MathFloatBits.float64frombits) Tryd.func29 (by kernel_rfl) (by kernel_rfl) (by kernel_rfl) (by kernel_rfl)]; rfl

theorem format_double : FloatKind.f64.format = double := rfl

/-! ### A float against itself, nought, and the greatest -/
theorem self_ne (b : Nat) (hb : b < 18446744073709551616) : (FloatKind.f64.format.order b b != some Ordering.eq) = nanB b := by
  rw [format_double]
  cases h : nanB b with
  | true => rw [order_nan b b hb hb (.inl h)]; rfl
  | false => rw [order_eq b b hb hb h h, cmp_ne]
theorem lt_word (b c : Nat) (hb : b < 18446744073709551616) (hc : c < 18446744073709551616) (h : nanB b = false) (k : nanB c = false) : (FloatKind.f64.format.order b c == some Ordering.lt) = decide (key b < key c) := by
  rw [format_double, order_eq b c hb hc h k, cmp_lt]
theorem gt_word (b c : Nat) (hb : b < 18446744073709551616) (hc : c < 18446744073709551616) (h : nanB b = false) (k : nanB c = false) : (FloatKind.f64.format.order b c == some Ordering.gt) = decide (key c < key b) := by
  rw [format_double, order_eq b c hb hc h k, cmp_gt]
theorem ge_word (b c : Nat) (hb : b < 18446744073709551616) (hc : c < 18446744073709551616) (h : nanB b = false) (k : nanB c = false) : (FloatKind.f64.format.order b c == some Ordering.gt || FloatKind.f64.format.order b c == some Ordering.eq) = decide (key c ≤ key b) := by
  rw [format_double, order_eq b c hb hc h k, cmp_ge]

/-! ### The sign -/
theorem xor_sign (b : Nat) (hb : b < 18446744073709551616) : b ^^^ 9223372036854775808 = if 9223372036854775808 ≤ b then b - 9223372036854775808 else b + 9223372036854775808 := by
  have e1 : (b ^^^ 9223372036854775808) % 2 ^ 63 = b % 2 ^ 63 ^^^ 9223372036854775808 % 2 ^ 63 := Nat.xor_mod_two_pow
  have e2 : (b ^^^ 9223372036854775808) / 2 ^ 63 = b / 2 ^ 63 ^^^ 9223372036854775808 / 2 ^ 63 := Nat.xor_div_two_pow
  rw [show (2 : Nat) ^ 63 = 9223372036854775808 by decide] at e1 e2
  rw [show 9223372036854775808 % 9223372036854775808 = 0 by decide, Nat.xor_zero] at e1
  rw [show 9223372036854775808 / 9223372036854775808 = 1 by decide] at e2
  split
  · rw [show b / 9223372036854775808 = 1 by omega, show 1 ^^^ 1 = 0 by decide] at e2
    omega
  · rw [show b / 9223372036854775808 = 0 by omega, show 0 ^^^ 1 = 1 by decide] at e2
    omega
theorem neg_float (b : Nat) (hb : b < 18446744073709551616) : Op.negFloat .f64 b = if 9223372036854775808 ≤ b then b - 9223372036854775808 else b + 9223372036854775808 := by
  unfold Op.negFloat
  rw [show 2 ^ (FloatKind.f64.format.exponentBits + FloatKind.f64.format.fractionBits) = 9223372036854775808 by decide]
  exact xor_sign b hb
theorem andNot_sign (b : Nat) (hb : b < 18446744073709551616) : bits .andNot .u64 (b : Int) 9223372036854775808 = (rung b : Int) := by
  show IntKind.u64.wrap ((BitVec.ofInt 64 (b : Int) &&& ~~~BitVec.ofInt 64 9223372036854775808).toNat : Int) = _
  have h2 : (~~~BitVec.ofInt 64 9223372036854775808).toNat = 2 ^ 63 - 1 := by decide
  have h1 : (BitVec.ofInt 64 (b : Int)).toNat = b := by
    rw [BitVec.toNat_ofInt]; omega
  rw [BitVec.toNat_and, h2, h1, Nat.and_two_pow_sub_one_eq_mod]
  have := rung_lt b
  have e : b % 2 ^ 63 = rung b := by rw [show (2 : Nat) ^ 63 = 9223372036854775808 by decide]; rfl
  rw [e]
  show (rung b : Int) % 18446744073709551616 = _
  omega

theorem isNaN_any (b : Nat) (hb : b < 18446744073709551616) (w : World) : Calls Tryd.prog 26 #[.float .f64 b] w fun e w' => e = .returned (.bool (nanB b)) ∧ w = w' := by
  have H := Lib.hid (self_ne b hb)
  go_enter Tryd.func26, Tryd.ntmps26
  go_wp2
  go_ret
  exact ⟨ret_bool H.out, rfl⟩
theorem abs_any (b : Nat) (hb : b < 18446744073709551616) (w : World) : Calls Tryd.prog 32 #[.float .f64 b] w fun e w' => e = .returned (.float .f64 (rung b)) ∧ w = w' := by
  have h1 := bits_run b
  have h2 := frombits_run (rung b : Int)
  have h3 := andNot_sign b hb
  have h4 := rung_lt b
  go_enter Tryd.func32, Tryd.ntmps32
  go_wp2
  go_ret
  exact ⟨rfl, rfl⟩
theorem signbit_any (b : Nat) (hb : b < 18446744073709551616) (w : World) : Calls Tryd.prog 28 #[.float .f64 b] w fun e w' => e = .returned (.bool (negB b)) ∧ w = w' := by
  have h1 := bits_run b
  have hv : Hid (decide (wrap64 (b : Int) < 0) = negB b) := Lib.hid (by unfold negB; rw [decide_eq_decide]; unfold wrap64; omega)
  go_enter Tryd.func28, Tryd.ntmps28
  go_wp2
  go_ret
  exact ⟨ret_bool hv.out, rfl⟩
end Go.Proofs.YtepnhddileadmaaDoor
