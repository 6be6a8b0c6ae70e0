/- What Text of package real answers. -/
import Derived.Test.YtepnhddileadmaaDoorReal
import Derived.Test.YtepnhddileadmaaDoorText
import Derived.Test.YtepnhddileadmaaDoorRText
import Derived.RegionTactic
import Derived.Deep.QuietTactic
import Derived.BigQuiet
import Derived.WalkSpells
namespace Go.Proofs.YtepnhddileadmaaDoor
open Go.RowKit
open Ieee (double)
open Go.Lib (decDigits itoa)

def strLen : Value → Nat
  | .string s => s.size
  | _ => 0
theorem pad_step (k : Nat) (l : List UInt8) (h : l.length < k) : padL k l = padL k (48 :: l) := by
  unfold padL
  rw [List.length_cons, show k - l.length = (k - (l.length + 1)) + 1 by omega, List.replicate_succ', List.append_assoc]
  rfl
theorem pad_done (k : Nat) (l : List UInt8) (h : k ≤ l.length) : padL k l = l := by
  unfold padL
  rw [show k - l.length = 0 by omega]; rfl
theorem bytes_size (s : ByteArray) : s.data.toList.length = s.size := by simp
theorem cat_list (a b : ByteArray) : (a ++ b).data.toList = a.data.toList ++ b.data.toList := by simp
theorem cons_cat (c : UInt8) (s : ByteArray) : ((⟨#[c]⟩ : ByteArray) ++ s).data.toList = c :: s.data.toList := by simp
theorem cat_size (c : UInt8) (s : ByteArray) : ((⟨#[c]⟩ : ByteArray) ++ s).size = s.size + 1 := by
  rw [← bytes_size, cons_cat, List.length_cons, bytes_size]
theorem bytes_ext {a b : ByteArray} (h : a.data.toList = b.data.toList) : a = b := by
  apply ByteArray.ext; exact Array.ext' h

theorem below_drewN (w : World) (n : Nat) : Below w.heap.size w (w.drewN n) := ⟨rfl, rfl, rfl, Nat.le_refl _, fun _ _ => rfl⟩
theorem pointed_bytes (l : List UInt8) (t : ByteArray) (h : 4 ≤ t.size) (hp : padL 4 l = padL 4 t.data.toList) : t.extract 0 (t.size - 3) ++ ⟨#[46]⟩ ++ t.extract (t.size - 3) t.size = ⟨(pointedL l).toArray⟩ := by
  apply bytes_ext
  rw [cat_list, cat_list]
  unfold pointedL
  rw [hp, pad_done 4 _ (by rw [bytes_size]; exact h), bytes_size]
  simp
  exact List.take_of_length_le (by simp)
theorem pointed_any (s : ByteArray) (hs : s.size ≤ 40) (w : World) : Calls Tryd.prog 34 #[.string s] w fun e w' => e = .returned (.string ⟨(pointedL s.data.toList).toArray⟩) ∧ Below w.heap.size w w' := by
  go_enter Tryd.func34, Tryd.ntmps34
  go_wp2
  go_loop [0] (fun v => ∃ t : ByteArray, v = .string t ∧ padL 4 s.data.toList = padL 4 t.data.toList ∧ t.size ≤ 44) (fun v => 44 - strLen v)
  case atStart => exact ⟨s, rfl, rfl, by omega⟩
  case round =>
    obtain ⟨t, rfl, ht, hl⟩ := hrel
    have HT := Lib.hid ht; clear ht
    by_cases c : t.size < 4
    · have hc := cat_size 48 t
      have HC := Lib.hid hc; clear hc
      go_wp2
      go_round
      case rel => exact ⟨_, rfl, by rw [HT.out, cons_cat]; exact pad_step 4 _ (by rw [bytes_size]; exact c), by rw [HC.out]; omega⟩
      case measure => simp only [strLen]; rw [HC.out]; omega
    · go_wp2
      have b1 : 0 ≤ (t.size : Int) - 3 := by omega
      have b2 : (t.size : Int) - 3 ≤ t.size := by omega
      have b3 : ((t.size : Int) - 3).toNat = t.size - 3 := by omega
      go_quiet (fail)
      go_wp2
      go_ret
      exact ⟨ret_str (pointed_bytes _ t (by omega) HT.out), below_drewN _ _⟩

/-! ### Text -/
theorem cmp_is_lt {a b : Int} (h : a < b) : compare a b = Ordering.lt := by
  show (if a < b then Ordering.lt else if a = b then .eq else .gt) = _
  rw [if_pos h]
theorem cmp_is_eq (a : Int) : compare a a = Ordering.eq := by
  show (if a < a then Ordering.lt else if a = a then .eq else .gt) = _
  simp
theorem cmp_is_gt {a b : Int} (h : b < a) : compare a b = Ordering.gt := by
  show (if a < b then Ordering.lt else if a = b then .eq else .gt) = _
  rw [if_neg (by omega), if_neg (by omega)]
theorem great_not : nanB 4831355200913801216 = false := by decide
theorem key_great : key 4831355200913801216 = 4831355200913801216 := by decide
theorem order_great (x : Nat) (h : x ≤ 9218868437227405312) : FloatKind.f64.format.order x 4831355200913801216 = some (compare (x : Int) 4831355200913801216) := by
  rw [format_double, order_eq x _ (by omega) (by omega) (nan_not h) great_not, key_pos (by omega), key_great]
theorem kind_pos_five (x : Nat) (h : x ≤ 9218868437227405312) : (kindN x == 5) = decide (x = 9218868437227405312) := by
  rw [Bool.eq_iff_iff]
  simp
  constructor
  · exact kind_five
  · intro e; subst e; decide
theorem itoa_len_nat (n : Nat) (h : n ≤ 1000000000000000000) : (⟨(itoa (n : Int)).toArray⟩ : ByteArray).size ≤ 40 := by
  have := itoa_len (n : Int) (by unfold Fits; omega)
  show (itoa (n : Int)).toArray.size ≤ 40
  simp; omega
theorem conv_some {y : Nat} {n : Int} (h : floatToIntVal .f64 y .i64 = some n) (W : World) : (convert 26 2 (.float .f64 y)).run Tryd.prog W = .ok (.int .i64 n) W :=
  run_convert_float_int W 26 2 .f64 .i64 y n (by kernel_rfl) Tryd.underlying2 h

theorem size_any (x : Nat) (hx : x ≤ 9218868437227405312) (w : World) (htab : Lib.TabIs Tryd.prog w "internal/strconv.uint64pow10" .u64 Lib.pow10Tab) : Calls Tryd.prog 31 #[.float .f64 x] w fun e w' => e = .returned (.string ⟨(sizeL x).toArray⟩) ∧ Below w.heap.size w w' := by
  have HT := Lib.hid htab; clear htab
  have hx2 : x < 18446744073709551616 := by omega
  have t5 := kind_pos_five x hx
  by_cases c5 : x = 9218868437227405312
  · rw [decide_eq_true c5] at t5
    have hv : Hid (sizeL x = [101, 110, 100, 108, 101, 115, 115]) := Lib.hid (by unfold sizeL; rw [if_pos c5])
    clear c5
    go_enter Tryd.func31, Tryd.ntmps31
    go_wp2_with (go_at_call 12; refine (of_any _ hx2 _).mono ?_; rintro e w' ⟨rfl, rfl⟩)
    go_ret
    exact ⟨ret_str (by rw [hv.out]), Below.refl _ _⟩
  · rw [decide_eq_false c5] at t5
    have ho := order_great x hx
    by_cases cg : 4831355200913801216 ≤ x
    · have hv : Hid (sizeL x = [103, 114, 101, 97, 116]) := Lib.hid (by unfold sizeL; rw [if_neg c5, if_pos cg])
      by_cases ce : x = 4831355200913801216
      · have ho2 : FloatKind.f64.format.order x 4831355200913801216 = some Ordering.eq := by rw [ho, ce]; exact congrArg some (cmp_is_eq _)
        clear ho c5 cg ce
        go_enter Tryd.func31, Tryd.ntmps31
        go_wp2_with (go_at_call 12; refine (of_any _ hx2 _).mono ?_; rintro e w' ⟨rfl, rfl⟩)
        go_ret
        exact ⟨ret_str (by rw [hv.out]), Below.refl _ _⟩
      · have ho2 : FloatKind.f64.format.order x 4831355200913801216 = some Ordering.gt := by rw [ho]; exact congrArg some (cmp_is_gt (by omega))
        clear ho c5 cg ce
        go_enter Tryd.func31, Tryd.ntmps31
        go_wp2_with (go_at_call 12; refine (of_any _ hx2 _).mono ?_; rintro e w' ⟨rfl, rfl⟩)
        go_ret
        exact ⟨ret_str (by rw [hv.out]), Below.refl _ _⟩
    · have ho2 : FloatKind.f64.format.order x 4831355200913801216 = some Ordering.lt := by rw [ho]; exact congrArg some (cmp_is_lt (by omega))
      have hv : Hid (sizeL x = pointedL (itoa (milliR x : Int))) := Lib.hid (by unfold sizeL; rw [if_neg c5, if_neg cg])
      have h1 := run_some (op := .mul) (mul_milli x (by omega))
      have h2 := conv_some (int_milli x (by omega))
      have hm := milli_le x (by omega)
      obtain ⟨m, em⟩ : ∃ m, m = milliR x := ⟨_, rfl⟩
      rw [← em] at h2 hm hv
      obtain ⟨y, ey⟩ : ∃ y, y = mulR x 4652007308841189376 := ⟨_, rfl⟩
      rw [← ey] at h1 h2
      have hf : Hid (Fits (m : Int)) := Lib.hid (by unfold Fits; omega)
      have HL := Lib.hid (itoa_len_nat m hm)
      clear ho c5 cg em ey hm
      go_enter Tryd.func31, Tryd.ntmps31
      go_wp2_with fail
      refine (of_any _ hx2 _).mono ?_
      rintro e w' ⟨rfl, rfl⟩
      go_wp2_with fail
      refine (text_any _ hf.out _ HT.out).mono ?_
      rintro e w1 ⟨rfl, hb1⟩
      go_wp2_with fail
      refine (pointed_any _ HL.out _).mono ?_
      rintro e w2 ⟨rfl, hb2⟩
      go_wp2_with fail
      go_ret
      exact ⟨ret_str (by rw [hv.out]), hb1.trans (hb2.mono hb1.size)⟩

theorem pad_length (k : Nat) (l : List UInt8) : (padL k l).length ≤ k + l.length := by
  unfold padL; simp
  first | done | omega
theorem pointed_length (l : List UInt8) : (pointedL l).length ≤ l.length + 5 := by
  have := pad_length 4 l
  unfold pointedL
  simp
  omega
theorem size_length (x : Nat) : (sizeL x).length ≤ 60 := by
  unfold sizeL
  split
  · simp
  · split
    · simp
    · rename_i h1 h2
      have hm := milli_le x (by omega)
      have h3 := itoa_len_nat _ hm
      have h4 := pointed_length (itoa (milliR x : Int))
      have h5 : (itoa (milliR x : Int)).length ≤ 40 := by change (itoa (milliR x : Int)).toArray.size ≤ 40 at h3; simpa using h3
      omega
theorem real_text_any (b : Nat) (hb : b < 18446744073709551616) (w : World) (htab : Lib.TabIs Tryd.prog w "internal/strconv.uint64pow10" .u64 Lib.pow10Tab) : Calls Tryd.prog 24 #[.float .f64 b] w fun e w' => e = .returned (.string ⟨(textL b).toArray⟩) ∧ Below w.heap.size w w' := by
  have HT := Lib.hid htab; clear htab
  by_cases k6 : kindN b = 6
  · have hv : Hid (textL b = [110, 111, 110, 101]) := Lib.hid (by unfold textL; rw [if_pos k6])
    have t6 : (kindN b == 6) = true := by simp [k6]
    clear k6
    go_enter Tryd.func24, Tryd.ntmps24
    go_wp2_with (go_at_call 12; refine (of_any _ hb _).mono ?_; rintro e w' ⟨rfl, rfl⟩)
    go_ret
    exact ⟨ret_str (by rw [hv.out]), Below.refl _ _⟩
  · have t6 : (kindN b == 6) = false := by simp [k6]
    have hr : rung b ≤ 9218868437227405312 := by
      have : nanB b = false := by
        cases h : nanB b with
        | false => rfl
        | true => exact absurd ((kind_six b).2 h) k6
      simpa [nanB] using this
    have hroom := size_length (rung b)
    by_cases k3 : kindN b < 3
    · have hv : Hid (textL b = 45 :: sizeL (rung b)) := Lib.hid (by unfold textL; rw [if_neg k6, if_pos k3])
      have hc : kindN b = 0 ∨ kindN b = 1 ∨ kindN b = 2 := by
        have : 0 ≤ kindN b := by unfold kindN; split <;> (try split) <;> (try split) <;> (try split) <;> omega
        omega
      clear k6 k3
      rcases hc with h | h | h
      · have t0 : (kindN b == 0) = true := by simp [h]
        clear h
        go_enter Tryd.func24, Tryd.ntmps24
        go_wp2_with fail
        refine (of_any _ hb _).mono ?_
        rintro e w' ⟨rfl, rfl⟩
        go_wp2_with fail
        refine (abs_any _ hb _).mono ?_
        rintro e w' ⟨rfl, rfl⟩
        go_wp2_with fail
        refine (size_any _ hr _ HT.out).mono ?_
        rintro e w1 ⟨rfl, hb1⟩
        go_wp2_with fail
        go_ret
        exact ⟨ret_str (by rw [hv.out, cat_digit]), hb1⟩
      · have t0 : (kindN b == 0) = false := by simp [h]
        have t1 : (kindN b == 1) = true := by simp [h]
        clear h
        go_enter Tryd.func24, Tryd.ntmps24
        go_wp2_with fail
        refine (of_any _ hb _).mono ?_
        rintro e w' ⟨rfl, rfl⟩
        go_wp2_with fail
        refine (abs_any _ hb _).mono ?_
        rintro e w' ⟨rfl, rfl⟩
        go_wp2_with fail
        refine (size_any _ hr _ HT.out).mono ?_
        rintro e w1 ⟨rfl, hb1⟩
        go_wp2_with fail
        go_ret
        exact ⟨ret_str (by rw [hv.out, cat_digit]), hb1⟩
      · have t0 : (kindN b == 0) = false := by simp [h]
        have t1 : (kindN b == 1) = false := by simp [h]
        have t2 : (kindN b == 2) = true := by simp [h]
        clear h
        go_enter Tryd.func24, Tryd.ntmps24
        go_wp2_with fail
        refine (of_any _ hb _).mono ?_
        rintro e w' ⟨rfl, rfl⟩
        go_wp2_with fail
        refine (abs_any _ hb _).mono ?_
        rintro e w' ⟨rfl, rfl⟩
        go_wp2_with fail
        refine (size_any _ hr _ HT.out).mono ?_
        rintro e w1 ⟨rfl, hb1⟩
        go_wp2_with fail
        go_ret
        exact ⟨ret_str (by rw [hv.out, cat_digit]), hb1⟩
    · have t0 : (kindN b == 0) = false := by simp; omega
      have t1 : (kindN b == 1) = false := by simp; omega
      have t2 : (kindN b == 2) = false := by simp; omega
      have hv : Hid (textL b = sizeL (rung b)) := Lib.hid (by unfold textL; rw [if_neg k6, if_neg k3])
      have hp : b = rung b := by
        refine (rung_pos ?_).symm
        rcases Nat.lt_or_ge b 9223372036854775808 with c | c
        · exact c
        · exfalso
          apply k3
          unfold kindN
          rw [if_neg (by omega)]
          split <;> (try split) <;> omega
      have hr2 : b ≤ 9218868437227405312 := by omega
      have HP := Lib.hid hp
      clear k6 k3 hp
      go_enter Tryd.func24, Tryd.ntmps24
      go_wp2_with fail
      refine (of_any _ hb _).mono ?_
      rintro e w' ⟨rfl, rfl⟩
      go_wp2_with fail
      refine (size_any _ hr2 _ HT.out).mono ?_
      rintro e w1 ⟨rfl, hb1⟩
      go_wp2_with fail
      go_ret
      exact ⟨ret_str (by rw [hv.out, ← HP.out]), hb1⟩
end Go.Proofs.YtepnhddileadmaaDoor
