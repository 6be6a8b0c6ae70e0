/- What the reference's Text of a float answers. -/
import Derived.Test.YtepnhddileadmaaDoorRealText
namespace Go.Proofs.YtepnhddileadmaaDoor
open Go.RowKit
open Ieee (double)
open Go.Lib (decDigits itoa)

theorem neg_word (b : Nat) (hb : b < 18446744073709551616) (h : 9223372036854775808 ≤ b) : Op.negFloat .f64 b = rung b := by
  rw [neg_float b hb, if_pos h]; unfold rung; omega
theorem text_end (m : Nat) (t : ByteArray) (h : padL 3 (itoa ((m : Int) % 1000)) = padL 3 t.data.toList) (ht : 3 ≤ t.size) : (⟨(itoa ((m : Int) / 1000)).toArray⟩ : ByteArray).data.toList ++ 46 :: t.data.toList = pointedL (itoa (m : Int)) := by
  rw [pointed_eq]
  rw [pad_done 3 t.data.toList (by rw [bytes_size]; exact ht)] at h
  rw [← h]
  rfl
theorem itoa_short (n : Int) (h : Fits n) : (itoa n).length ≤ 20 := itoa_len n h
theorem kind_low (b : Nat) (h6 : ¬ kindN b = 6) (hb : b < 18446744073709551616) : (kindN b < 3 ↔ 9223372036854775808 ≤ b) := by
  have hr : rung b ≤ 9218868437227405312 := by
    have : nanB b = false := by
      cases h : nanB b with
      | false => rfl
      | true => exact absurd ((kind_six b).2 h) h6
    simpa [nanB] using this
  unfold kindN
  rw [if_neg (by omega)]
  split <;> (try split) <;> (try split) <;> omega
theorem rtext_neg_endless (b : Nat) (hb : b < 18446744073709551616) (t6 : (kindN b == 6) = false) (t3 : decide (kindN b < 3) = true) (r : Nat) (hr2 : r ≤ 9218868437227405312) (hneg : Op.unary .neg (.float .f64 b) = pure (.float .f64 r)) (hv : Hid (textL b = 45 :: sizeL r)) (t5 : (kindN r == 5) = true) (hs : Hid (sizeL r = [101, 110, 100, 108, 101, 115, 115])) (w : World) : Calls Tryd.prog 25 #[.float .f64 b] w fun e w' => e = .returned (.string ⟨(textL b).toArray⟩) ∧ w = w' := by
  have hx2 : r < 18446744073709551616 := by omega
  go_enter Tryd.func25, Tryd.ntmps25
  go_wp2_with fail
  refine (rkind_any _ hb _).mono ?_
  rintro e w' ⟨rfl, rfl⟩
  go_wp2_with fail
  refine (rkind_any _ hx2 _).mono ?_
  rintro e w' ⟨rfl, rfl⟩
  go_wp2_with fail
  go_ret
  exact ⟨ret_str (by rw [hv.out, hs.out]; try rfl), rfl⟩
theorem rtext_neg_great_eq (b : Nat) (hb : b < 18446744073709551616) (t6 : (kindN b == 6) = false) (t3 : decide (kindN b < 3) = true) (r : Nat) (hr2 : r ≤ 9218868437227405312) (hneg : Op.unary .neg (.float .f64 b) = pure (.float .f64 r)) (hv : Hid (textL b = 45 :: sizeL r)) (t5 : (kindN r == 5) = false) (ho : FloatKind.f64.format.order r 4831355200913801216 = some Ordering.eq) (hs : Hid (sizeL r = [103, 114, 101, 97, 116])) (w : World) : Calls Tryd.prog 25 #[.float .f64 b] w fun e w' => e = .returned (.string ⟨(textL b).toArray⟩) ∧ w = w' := by
  have hx2 : r < 18446744073709551616 := by omega
  go_enter Tryd.func25, Tryd.ntmps25
  go_wp2_with fail
  refine (rkind_any _ hb _).mono ?_
  rintro e w' ⟨rfl, rfl⟩
  go_wp2_with fail
  refine (rkind_any _ hx2 _).mono ?_
  rintro e w' ⟨rfl, rfl⟩
  go_wp2_with fail
  go_ret
  exact ⟨ret_str (by rw [hv.out, hs.out]; try rfl), rfl⟩
theorem rtext_neg_great_gt (b : Nat) (hb : b < 18446744073709551616) (t6 : (kindN b == 6) = false) (t3 : decide (kindN b < 3) = true) (r : Nat) (hr2 : r ≤ 9218868437227405312) (hneg : Op.unary .neg (.float .f64 b) = pure (.float .f64 r)) (hv : Hid (textL b = 45 :: sizeL r)) (t5 : (kindN r == 5) = false) (ho : FloatKind.f64.format.order r 4831355200913801216 = some Ordering.gt) (hs : Hid (sizeL r = [103, 114, 101, 97, 116])) (w : World) : Calls Tryd.prog 25 #[.float .f64 b] w fun e w' => e = .returned (.string ⟨(textL b).toArray⟩) ∧ w = w' := by
  have hx2 : r < 18446744073709551616 := by omega
  go_enter Tryd.func25, Tryd.ntmps25
  go_wp2_with fail
  refine (rkind_any _ hb _).mono ?_
  rintro e w' ⟨rfl, rfl⟩
  go_wp2_with fail
  refine (rkind_any _ hx2 _).mono ?_
  rintro e w' ⟨rfl, rfl⟩
  go_wp2_with fail
  go_ret
  exact ⟨ret_str (by rw [hv.out, hs.out]; try rfl), rfl⟩
theorem rtext_neg_digits (b : Nat) (hb : b < 18446744073709551616) (t6 : (kindN b == 6) = false) (t3 : decide (kindN b < 3) = true) (r : Nat) (hr2 : r ≤ 9218868437227405312) (hneg : Op.unary .neg (.float .f64 b) = pure (.float .f64 r)) (hv : Hid (textL b = 45 :: sizeL r)) (t5 : (kindN r == 5) = false) (ho : FloatKind.f64.format.order r 4831355200913801216 = some Ordering.lt) (m y : Nat) (hm : m ≤ 1000000000000000000) (h1 : ∀ W, (binOp .mul 26 (.float .f64 r) (.float .f64 4652007308841189376)).run Tryd.prog W = .ok (.float .f64 y) W) (h2 : ∀ W, (convert 26 2 (.float .f64 y)).run Tryd.prog W = .ok (.int .i64 (m : Int)) W) (hs : Hid (sizeL r = pointedL (itoa (m : Int)))) (w : World) : Calls Tryd.prog 25 #[.float .f64 b] w fun e w' => e = .returned (.string ⟨(textL b).toArray⟩) ∧ w = w' := by
  have hx2 : r < 18446744073709551616 := by omega
  have f1 : Hid (Fits ((m : Int) % 1000)) := Lib.hid (by unfold Fits; omega)
  have f2 : Hid (Fits ((m : Int) / 1000)) := Lib.hid (by unfold Fits; omega)
  have l1 := itoa_short _ f1.out
  have l2 := itoa_short _ f2.out
  go_enter Tryd.func25, Tryd.ntmps25
  go_wp2_with fail
  refine (rkind_any _ hb _).mono ?_
  rintro e w' ⟨rfl, rfl⟩
  go_wp2_with fail
  refine (rkind_any _ hx2 _).mono ?_
  rintro e w' ⟨rfl, rfl⟩
  go_wp2_with fail
  refine (rtext_any _ f1.out _).mono ?_
  rintro e w' ⟨rfl, rfl⟩
  go_wp2_with fail
  go_loop [6] (fun v => ∃ t : ByteArray, v = .string t ∧ padL 3 (itoa ((m : Int) % 1000)) = padL 3 t.data.toList ∧ t.size ≤ 24) (fun v => 24 - strLen v)
  case atStart => exact ⟨_, rfl, rfl, by show (itoa ((m : Int) % 1000)).toArray.size ≤ 24; simp; omega⟩
  case round =>
    obtain ⟨t, rfl, ht, hl⟩ := hrel
    have HT := Lib.hid ht; clear ht
    by_cases c : t.size < 3
    · have hc := cat_size 48 t
      have HC := Lib.hid hc; clear hc
      go_wp2_with fail
      go_round
      case rel => exact ⟨_, rfl, by rw [HT.out, cons_cat]; exact pad_step 3 _ (by rw [bytes_size]; exact c), by rw [HC.out]; omega⟩
      case measure => simp only [strLen]; rw [HC.out]; omega
    · go_wp2_with fail
      refine (rtext_any _ f2.out _).mono ?_
      rintro e w' ⟨rfl, rfl⟩
      go_wp2_with fail
      go_ret
      exact ⟨ret_str (by rw [hv.out, hs.out, ← text_end m t HT.out (by omega)]; apply bytes_ext; simp), rfl⟩
theorem rtext_pos_endless (b : Nat) (hb : b < 18446744073709551616) (t6 : (kindN b == 6) = false) (t3 : decide (kindN b < 3) = false) (hv : Hid (textL b = sizeL b)) (t5 : (kindN b == 5) = true) (hs : Hid (sizeL b = [101, 110, 100, 108, 101, 115, 115])) (w : World) : Calls Tryd.prog 25 #[.float .f64 b] w fun e w' => e = .returned (.string ⟨(textL b).toArray⟩) ∧ w = w' := by
  have hx2 : b < 18446744073709551616 := by omega
  go_enter Tryd.func25, Tryd.ntmps25
  go_wp2_with fail
  refine (rkind_any _ hb _).mono ?_
  rintro e w' ⟨rfl, rfl⟩
  go_wp2_with fail
  refine (rkind_any _ hx2 _).mono ?_
  rintro e w' ⟨rfl, rfl⟩
  go_wp2_with fail
  go_ret
  exact ⟨ret_str (by rw [hv.out, hs.out]; try rfl), rfl⟩
theorem rtext_pos_great_eq (b : Nat) (hb : b < 18446744073709551616) (t6 : (kindN b == 6) = false) (t3 : decide (kindN b < 3) = false) (hv : Hid (textL b = sizeL b)) (t5 : (kindN b == 5) = false) (ho : FloatKind.f64.format.order b 4831355200913801216 = some Ordering.eq) (hs : Hid (sizeL b = [103, 114, 101, 97, 116])) (w : World) : Calls Tryd.prog 25 #[.float .f64 b] w fun e w' => e = .returned (.string ⟨(textL b).toArray⟩) ∧ w = w' := by
  have hx2 : b < 18446744073709551616 := by omega
  go_enter Tryd.func25, Tryd.ntmps25
  go_wp2_with fail
  refine (rkind_any _ hb _).mono ?_
  rintro e w' ⟨rfl, rfl⟩
  go_wp2_with fail
  refine (rkind_any _ hx2 _).mono ?_
  rintro e w' ⟨rfl, rfl⟩
  go_wp2_with fail
  go_ret
  exact ⟨ret_str (by rw [hv.out, hs.out]; try rfl), rfl⟩
theorem rtext_pos_great_gt (b : Nat) (hb : b < 18446744073709551616) (t6 : (kindN b == 6) = false) (t3 : decide (kindN b < 3) = false) (hv : Hid (textL b = sizeL b)) (t5 : (kindN b == 5) = false) (ho : FloatKind.f64.format.order b 4831355200913801216 = some Ordering.gt) (hs : Hid (sizeL b = [103, 114, 101, 97, 116])) (w : World) : Calls Tryd.prog 25 #[.float .f64 b] w fun e w' => e = .returned (.string ⟨(textL b).toArray⟩) ∧ w = w' := by
  have hx2 : b < 18446744073709551616 := by omega
  go_enter Tryd.func25, Tryd.ntmps25
  go_wp2_with fail
  refine (rkind_any _ hb _).mono ?_
  rintro e w' ⟨rfl, rfl⟩
  go_wp2_with fail
  refine (rkind_any _ hx2 _).mono ?_
  rintro e w' ⟨rfl, rfl⟩
  go_wp2_with fail
  go_ret
  exact ⟨ret_str (by rw [hv.out, hs.out]; try rfl), rfl⟩
theorem rtext_pos_digits (b : Nat) (hb : b < 18446744073709551616) (t6 : (kindN b == 6) = false) (t3 : decide (kindN b < 3) = false) (hv : Hid (textL b = sizeL b)) (t5 : (kindN b == 5) = false) (ho : FloatKind.f64.format.order b 4831355200913801216 = some Ordering.lt) (m y : Nat) (hm : m ≤ 1000000000000000000) (h1 : ∀ W, (binOp .mul 26 (.float .f64 b) (.float .f64 4652007308841189376)).run Tryd.prog W = .ok (.float .f64 y) W) (h2 : ∀ W, (convert 26 2 (.float .f64 y)).run Tryd.prog W = .ok (.int .i64 (m : Int)) W) (hs : Hid (sizeL b = pointedL (itoa (m : Int)))) (w : World) : Calls Tryd.prog 25 #[.float .f64 b] w fun e w' => e = .returned (.string ⟨(textL b).toArray⟩) ∧ w = w' := by
  have hx2 : b < 18446744073709551616 := by omega
  have f1 : Hid (Fits ((m : Int) % 1000)) := Lib.hid (by unfold Fits; omega)
  have f2 : Hid (Fits ((m : Int) / 1000)) := Lib.hid (by unfold Fits; omega)
  have l1 := itoa_short _ f1.out
  have l2 := itoa_short _ f2.out
  go_enter Tryd.func25, Tryd.ntmps25
  go_wp2_with fail
  refine (rkind_any _ hb _).mono ?_
  rintro e w' ⟨rfl, rfl⟩
  go_wp2_with fail
  refine (rkind_any _ hx2 _).mono ?_
  rintro e w' ⟨rfl, rfl⟩
  go_wp2_with fail
  refine (rtext_any _ f1.out _).mono ?_
  rintro e w' ⟨rfl, rfl⟩
  go_wp2_with fail
  go_loop [6] (fun v => ∃ t : ByteArray, v = .string t ∧ padL 3 (itoa ((m : Int) % 1000)) = padL 3 t.data.toList ∧ t.size ≤ 24) (fun v => 24 - strLen v)
  case atStart => exact ⟨_, rfl, rfl, by show (itoa ((m : Int) % 1000)).toArray.size ≤ 24; simp; omega⟩
  case round =>
    obtain ⟨t, rfl, ht, hl⟩ := hrel
    have HT := Lib.hid ht; clear ht
    by_cases c : t.size < 3
    · have hc := cat_size 48 t
      have HC := Lib.hid hc; clear hc
      go_wp2_with fail
      go_round
      case rel => exact ⟨_, rfl, by rw [HT.out, cons_cat]; exact pad_step 3 _ (by rw [bytes_size]; exact c), by rw [HC.out]; omega⟩
      case measure => simp only [strLen]; rw [HC.out]; omega
    · go_wp2_with fail
      refine (rtext_any _ f2.out _).mono ?_
      rintro e w' ⟨rfl, rfl⟩
      go_wp2_with fail
      go_ret
      exact ⟨ret_str (by rw [hv.out, hs.out, ← text_end m t HT.out (by omega)]; apply bytes_ext; simp), rfl⟩

theorem rtext_float_any (b : Nat) (hb : b < 18446744073709551616) (w : World) : Calls Tryd.prog 25 #[.float .f64 b] w fun e w' => e = .returned (.string ⟨(textL b).toArray⟩) ∧ w = w' := by
  by_cases k6 : kindN b = 6
  · have hv : Hid (textL b = [110, 111, 110, 101]) := Lib.hid (by unfold textL; rw [if_pos k6])
    have t6 : (kindN b == 6) = true := by simp [k6]
    clear k6
    go_enter Tryd.func25, Tryd.ntmps25
    go_wp2_with (go_at_call 14; refine (rkind_any _ hb _).mono ?_; rintro e w' ⟨rfl, rfl⟩)
    go_ret
    exact ⟨ret_str (by rw [hv.out]), rfl⟩
  · have t6 : (kindN b == 6) = false := by simp [k6]
    have hr : rung b ≤ 9218868437227405312 := by
      have : nanB b = false := by
        cases h : nanB b with
        | false => rfl
        | true => exact absurd ((kind_six b).2 h) k6
      simpa [nanB] using this
    have kl := kind_low b k6 hb
    have t5 := kind_pos_five (rung b) hr
    have ho := order_great (rung b) hr
    by_cases k3 : kindN b < 3
    · have hv : Hid (textL b = 45 :: sizeL (rung b)) := Lib.hid (by unfold textL; rw [if_neg k6, if_pos k3])
      have t3 := decide_eq_true k3
      have hneg : Op.unary .neg (.float .f64 b) = pure (.float .f64 (rung b)) := by
        show pure (Value.float .f64 (Op.negFloat .f64 b)) = _
        rw [neg_word b hb (kl.1 k3)]
      by_cases c5 : rung b = 9218868437227405312
      · exact rtext_neg_endless b hb t6 t3 _ hr hneg hv (by rw [t5]; exact decide_eq_true c5) (Lib.hid (by unfold sizeL; rw [if_pos c5])) w
      · rw [decide_eq_false c5] at t5
        by_cases cg : 4831355200913801216 ≤ rung b
        · have hs : Hid (sizeL (rung b) = [103, 114, 101, 97, 116]) := Lib.hid (by unfold sizeL; rw [if_neg c5, if_pos cg])
          by_cases ce : rung b = 4831355200913801216
          · exact rtext_neg_great_eq b hb t6 t3 _ hr hneg hv t5 (by rw [ho, ce]; exact congrArg some (cmp_is_eq _)) hs w
          · exact rtext_neg_great_gt b hb t6 t3 _ hr hneg hv t5 (by rw [ho]; exact congrArg some (cmp_is_gt (by omega))) hs w
        · exact rtext_neg_digits b hb t6 t3 _ hr hneg hv t5 (by rw [ho]; exact congrArg some (cmp_is_lt (by omega))) (milliR (rung b)) (mulR (rung b) 4652007308841189376) (milli_le _ (by omega)) (run_some (op := .mul) (mul_milli _ (by omega))) (conv_some (int_milli _ (by omega))) (Lib.hid (by unfold sizeL; rw [if_neg c5, if_neg cg])) w
    · have hv : Hid (textL b = sizeL (rung b)) := Lib.hid (by unfold textL; rw [if_neg k6, if_neg k3])
      have t3 := decide_eq_false k3
      have hp : rung b = b := rung_pos (by omega)
      rw [hp] at hv t5 ho hr
      by_cases c5 : b = 9218868437227405312
      · exact rtext_pos_endless b hb t6 t3 hv (by rw [t5]; exact decide_eq_true c5) (Lib.hid (by unfold sizeL; rw [if_pos c5])) w
      · rw [decide_eq_false c5] at t5
        by_cases cg : 4831355200913801216 ≤ b
        · have hs : Hid (sizeL b = [103, 114, 101, 97, 116]) := Lib.hid (by unfold sizeL; rw [if_neg c5, if_pos cg])
          by_cases ce : b = 4831355200913801216
          · exact rtext_pos_great_eq b hb t6 t3 hv t5 (by rw [ho, ce]; exact congrArg some (cmp_is_eq _)) hs w
          · exact rtext_pos_great_gt b hb t6 t3 hv t5 (by rw [ho]; exact congrArg some (cmp_is_gt (by omega))) hs w
        · exact rtext_pos_digits b hb t6 t3 hv t5 (by rw [ho]; exact congrArg some (cmp_is_lt (by omega))) (milliR b) (mulR b 4652007308841189376) (milli_le _ (by omega)) (run_some (op := .mul) (mul_milli _ (by omega))) (conv_some (int_milli _ (by omega))) (Lib.hid (by unfold sizeL; rw [if_neg c5, if_neg cg])) w
end Go.Proofs.YtepnhddileadmaaDoor
