/- What is accepted at a heat, and that it keeps order; how floats are told. No Go in sight. -/
import Derived.Test.YtepnhddileadmaaDoorFloatOps
import Derived.Lib.ItoaNum
namespace Go.Proofs.YtepnhddileadmaaDoor
open Ieee
open Go.Lib (decDigits itoa)

/-! ### Accepting -/
def sumOne (q : Nat) : Nat := if q < 9218868437227405312 then addR 4607182418800017408 q else 9218868437227405312
def prodO (d s : Nat) : Option Nat := if s < 9218868437227405312 then some (mulR d s) else if d = 0 then none else some 9218868437227405312
theorem sumOne_le (q : Nat) : sumOne q ≤ 9218868437227405312 := by unfold sumOne; split; exact addR_le _ _; exact Nat.le_refl _
theorem add_one (q : Nat) (h : q ≤ 9218868437227405312) : double.add 4607182418800017408 q = some (sumOne q) := by
  unfold sumOne
  by_cases c : q < 9218868437227405312
  · rw [if_pos c]; exact add_pos _ _ (by omega) c (by omega)
  · rw [if_neg c, show q = 9218868437227405312 by omega]; exact add_inf _ (by omega)
theorem mul_prod (d s : Nat) (hd : d < 9218868437227405312) (h : s ≤ 9218868437227405312) : double.mul d s = prodO d s := by
  unfold prodO
  by_cases c : s < 9218868437227405312
  · rw [if_pos c]; exact mul_pos _ _ hd c
  · rw [if_neg c, show s = 9218868437227405312 by omega]; exact mul_inf _ hd
theorem prodO_le {d s z : Nat} (h : prodO d s = some z) : z ≤ 9218868437227405312 := by
  unfold prodO at h
  split at h
  · cases h; exact mulR_le _ _
  · split at h
    · cases h
    · cases h; exact Nat.le_refl _
def acceptPos (c h d : Nat) : Bool :=
  match prodO d (sumOne (divR c h)) with
  | some z => decide (z < 4751297606875873280)
  | none => false
theorem acceptPos_mono (c c' h d d' : Nat) (h0 : 0 < h) (hc : c' ≤ c) (hn : 4503599627370496 ≤ c') (hd : d' ≤ d) (ha : acceptPos c h d = true) : acceptPos c' h d' = true := by
  unfold acceptPos prodO at ha ⊢
  have hq := divR_mono c' c h hc hn h0
  by_cases f : sumOne (divR c h) < 9218868437227405312
  · rw [if_pos f] at ha
    have hs : sumOne (divR c' h) ≤ sumOne (divR c h) := by
      unfold sumOne at f ⊢
      by_cases g : divR c h < 9218868437227405312
      · rw [if_pos g, if_pos (by omega)]; exact addR_mono hq
      · rw [if_neg g] at f; omega
    rw [if_pos (by omega)]
    simp only [decide_eq_true_eq] at ha ⊢
    have := mulR_mono hd hs
    omega
  · rw [if_neg f] at ha
    by_cases g : d = 0
    · rw [if_pos g] at ha; cases ha
    · rw [if_neg g] at ha; simp at ha
def acceptB (change : Int) (heat draw : Nat) : Bool :=
  if kindN heat = 5 then true
  else if kindN heat = 4 ∧ 0 < change then acceptPos (rungOf change.toNat 0) heat (rungOf draw 0)
  else decide (change ≤ 0)
theorem kind_four {b : Nat} (h : kindN b = 4) : 0 < b ∧ b < 9218868437227405312 := by
  unfold kindN at h
  split at h
  · omega
  · split at h
    · split at h <;> omega
    · split at h
      · split at h <;> omega
      · split at h
        · omega
        · rename_i h1 h2 h3 h4
          have := rung_pos (b := b) (by omega)
          omega
theorem kind_five {b : Nat} (h : kindN b = 5) : b = 9218868437227405312 := by
  unfold kindN at h
  split at h
  · omega
  · split at h
    · split at h
      · omega
      · rename_i h1 h2 h3
        have := rung_pos (b := b) (by omega)
        omega
    · split at h
      · split at h <;> omega
      · split at h <;> omega
theorem acceptB_mono (change less : Int) (heat draw low : Nat) (h1 : less ≤ change) (h2 : low ≤ draw) (ha : acceptB change heat draw = true) : acceptB less heat low = true := by
  unfold acceptB at ha ⊢
  by_cases k5 : kindN heat = 5
  · rw [if_pos k5]
  · rw [if_neg k5] at ha ⊢
    by_cases k4 : kindN heat = 4 ∧ 0 < less
    · obtain ⟨k, hl⟩ := k4
      rw [if_pos ⟨k, by omega⟩] at ha
      rw [if_pos ⟨k, hl⟩]
      have hh := kind_four k
      have m1 := ofInt_mono less.toNat change.toNat (by omega)
      have m2 := ofInt_mono low draw h2
      have m3 := ofInt_mono 1 less.toNat (by omega)
      rw [of_one] at m3
      exact acceptPos_mono _ _ _ _ _ hh.1 m1 (by omega) m2 ha
    · rw [if_neg k4]
      by_cases c : kindN heat = 4 ∧ 0 < change
      · simp; omega
      · rw [if_neg c] at ha; simp at ha ⊢; omega

/-! ### Differences of whole numbers -/
theorem of_full : rungOf 9223372036854775808 0 = 4890909195324358656 := by decide +kernel
theorem word_rung (s : Bool) (r : Nat) (h : r < 9223372036854775808) : rung (double.word s r) = r ∧ double.word s r < 18446744073709551616 := by
  unfold Format.word
  rw [d_sign]
  unfold rung
  cases s
  · rw [if_neg (by simp)]; omega
  · rw [if_pos rfl]; omega
theorem int_fin (n : Int) (h1 : -9223372036854775808 ≤ n) (h2 : n ≤ 9223372036854775807) : rung (floatOfInt .f64 n) < 9218868437227405312 ∧ floatOfInt .f64 n < 18446744073709551616 := by
  have e : floatOfInt .f64 n = double.word (decide (n < 0)) (rungOf n.natAbs 0) := by
    rw [← nearest_word]
    unfold floatOfInt FloatKind.nearest FloatKind.encode Format.write
    rfl
  have h3 := ofInt_mono n.natAbs 9223372036854775808 (by omega)
  rw [of_full] at h3
  have h4 := word_rung (decide (n < 0)) (rungOf n.natAbs 0) (by omega)
  rw [e]
  omega
theorem sub_some (x y : Nat) (hx : x < 18446744073709551616) (hy : y < 18446744073709551616) (kx : rung x < 9218868437227405312) (ky : rung y < 9218868437227405312) : ∃ r, double.sub x y = some r := by
  unfold Format.sub
  rw [read_num x hx kx, read_num y hy ky]
  exact ⟨_, rfl⟩

/-! ### Telling -/
def milliR (x : Nat) : Nat := floorR (mulR x 4652007308841189376)
theorem milli_most : floorR (mulR 4831355200913801216 4652007308841189376) = 1000000000000000000 := by decide +kernel
theorem prod_most : mulR 4831355200913801216 4652007308841189376 = 4876203697187506176 := by decide +kernel
theorem prod_lt (x : Nat) (h : x ≤ 4831355200913801216) : mulR x 4652007308841189376 ≤ 4876203697187506176 := by
  have := mulR_mono (b := 4652007308841189376) h (Nat.le_refl _)
  rw [prod_most] at this
  exact this
theorem milli_le (x : Nat) (h : x ≤ 4831355200913801216) : milliR x ≤ 1000000000000000000 := by
  have := floorR_mono (mulR_mono (b := 4652007308841189376) h (Nat.le_refl _))
  rw [milli_most] at this
  exact this
theorem mul_milli (x : Nat) (h : x ≤ 4831355200913801216) : double.mul x 4652007308841189376 = some (mulR x 4652007308841189376) := mul_pos _ _ (by omega) (by omega)
theorem decode_double (b : Nat) : FloatKind.f64.decode b = double.read b := rfl
theorem int_floor (y : Nat) (h1 : y < 9218868437227405312) (h3 : floorR y ≤ 1000000000000000000) : floatToIntVal .f64 y .i64 = some (floorR y : Int) := by
  have h2 := toInt_pos y h1
  have e1 : IntKind.i64.min = -9223372036854775808 := by decide
  have e2 : IntKind.i64.max = 9223372036854775807 := by decide
  unfold floatToIntVal
  rw [decode_double, h2, e1, e2]
  have h4 : -9223372036854775808 ≤ (floorR y : Int) ∧ (floorR y : Int) ≤ 9223372036854775807 := by omega
  generalize (floorR y : Int) = z at h4 ⊢
  exact if_pos h4
theorem int_milli (x : Nat) (h : x ≤ 4831355200913801216) : floatToIntVal .f64 (mulR x 4652007308841189376) .i64 = some (milliR x : Int) :=
  int_floor _ (Nat.lt_of_le_of_lt (prod_lt x h) (by decide)) (milli_le x h)

def padL (k : Nat) (l : List UInt8) : List UInt8 := List.replicate (k - l.length) 48 ++ l
def pointedL (l : List UInt8) : List UInt8 := (padL 4 l).take ((padL 4 l).length - 3) ++ 46 :: (padL 4 l).drop ((padL 4 l).length - 3)
def sizeL (x : Nat) : List UInt8 :=
  if x = 9218868437227405312 then [101, 110, 100, 108, 101, 115, 115]
  else if 4831355200913801216 ≤ x then [103, 114, 101, 97, 116]
  else pointedL (itoa (milliR x : Int))
def textL (b : Nat) : List UInt8 :=
  if kindN b = 6 then [110, 111, 110, 101]
  else if kindN b < 3 then 45 :: sizeL (rung b)
  else sizeL (rung b)

def dg (d : Nat) : UInt8 := UInt8.ofNat (48 + d)
theorem decDigits_lt (n : Nat) (h : n < 10) : decDigits n = [dg n] := by rw [decDigits, dif_pos h]; rfl
theorem decDigits_ge (n : Nat) (h : ¬ n < 10) : decDigits n = decDigits (n / 10) ++ [dg (n % 10)] := by rw [decDigits, dif_neg h]; rfl
def three (m : Nat) : List UInt8 := [dg (m / 100), dg (m / 10 % 10), dg (m % 10)]
theorem dg_zero : dg 0 = 48 := rfl
theorem pad_three (m : Nat) (h : m < 1000) : padL 3 (decDigits m) = three m := by
  unfold padL three
  by_cases h1 : m < 10
  · rw [decDigits_lt m h1, show m / 100 = 0 by omega, show m / 10 % 10 = 0 by omega, show m % 10 = m by omega]; rfl
  · by_cases h2 : m < 100
    · rw [decDigits_ge m h1, decDigits_lt (m / 10) (by omega), show m / 100 = 0 by omega, show m / 10 % 10 = m / 10 by omega]; rfl
    · rw [decDigits_ge m h1, decDigits_ge (m / 10) (by omega), decDigits_lt (m / 10 / 10) (by omega), show m / 10 / 10 = m / 100 by omega]; rfl
theorem decDigits_length (n : Nat) : 1 ≤ (decDigits n).length := by
  by_cases h : n < 10
  · rw [decDigits_lt n h]; simp
  · rw [decDigits_ge n h]; simp
theorem pad_four (n : Nat) : padL 4 (decDigits n) = decDigits (n / 1000) ++ three (n % 1000) := by
  by_cases h : n < 1000
  · have e := pad_three n h
    have hl : (decDigits n).length ≤ 3 := by
      have h3 : (padL 3 (decDigits n)).length = 3 := by rw [e]; rfl
      unfold padL at h3
      simp at h3
      omega
    rw [show n / 1000 = 0 by omega, show n % 1000 = n by omega, decDigits_lt 0 (by omega), ← e]
    unfold padL
    rw [show 4 - (decDigits n).length = (3 - (decDigits n).length) + 1 by omega, List.replicate_succ]
    rfl
  · have e : decDigits n = decDigits (n / 1000) ++ three (n % 1000) := by
      rw [decDigits_ge n (by omega), decDigits_ge (n / 10) (by omega), decDigits_ge (n / 10 / 10) (by omega)]
      unfold three
      rw [show n / 10 / 10 / 10 = n / 1000 by omega, show n / 10 / 10 % 10 = n % 1000 / 100 by omega, show n / 10 % 10 = n % 1000 / 10 % 10 by omega, show n % 10 = n % 1000 % 10 by omega]
      simp
    have hl : 4 ≤ (decDigits n).length := by
      have := decDigits_length (n / 1000)
      rw [e]; unfold three; simp; exact this
    rw [← e]
    unfold padL
    rw [show 4 - (decDigits n).length = 0 by omega]
    simp
theorem itoa_nat (n : Nat) : itoa (n : Int) = decDigits n := by
  rw [itoa, if_neg (by omega)]; rfl
/-- A point ahead of the last three digits. -/
theorem pointed_eq (n : Nat) : pointedL (itoa (n : Int)) = itoa ((n / 1000 : Nat) : Int) ++ 46 :: padL 3 (itoa ((n % 1000 : Nat) : Int)) := by
  rw [itoa_nat, itoa_nat, itoa_nat, pad_three _ (Nat.mod_lt _ (by omega))]
  unfold pointedL
  rw [pad_four]
  have e : (decDigits (n / 1000) ++ three (n % 1000)).length - 3 = (decDigits (n / 1000)).length := by unfold three; simp
  rw [e]
  simp
end Go.Proofs.YtepnhddileadmaaDoor
