/- The operations on floats of 64 bits without a sign: what they give, and that they keep order; kinds and places of floats. No Go in sight. -/
import Derived.Test.YtepnhddileadmaaDoorFloatW
namespace Go.Proofs.YtepnhddileadmaaDoor
open Ieee

/-! ### Kinds and places -/
def kindN (b : Nat) : Int :=
  if 9218868437227405312 < rung b then 6
  else if rung b = 9218868437227405312 then (if 9223372036854775808 ≤ b then 0 else 5)
  else if rung b = 0 then (if 9223372036854775808 ≤ b then 2 else 3)
  else if 9223372036854775808 ≤ b then 1 else 4
def placeV (b : Nat) : Int :=
  if 9218868437227405312 < rung b then 9223372036854775807
  else if 9223372036854775808 ≤ b then -(rung b : Int) - 1 else rung b
def lessB (b c : Nat) : Bool := decide (placeV b < placeV c)
theorem kind_six (b : Nat) : kindN b = 6 ↔ nanB b = true := by
  unfold kindN nanB
  rw [decide_eq_true_eq]
  constructor
  · intro h
    split at h
    · assumption
    · split at h
      · split at h <;> omega
      · split at h
        · split at h <;> omega
        · split at h <;> omega
  · intro h; rw [if_pos h]
theorem less_kinds (b c : Nat) (h : ¬ kindN b = kindN c) : decide (kindN b < kindN c) = lessB b c := by
  unfold lessB
  rw [decide_eq_decide]
  have r1 := rung_lt b
  have r2 := rung_lt c
  unfold kindN at h ⊢
  unfold placeV
  by_cases b1 : 9218868437227405312 < rung b
  all_goals by_cases b2 : rung b = 9218868437227405312
  all_goals by_cases b3 : rung b = 0
  all_goals by_cases b4 : 9223372036854775808 ≤ b
  all_goals first | omega | skip
  all_goals simp only [b1, b2, b3, b4, if_true, if_false] at h ⊢
  all_goals by_cases c1 : 9218868437227405312 < rung c
  all_goals by_cases c2 : rung c = 9218868437227405312
  all_goals by_cases c3 : rung c = 0
  all_goals by_cases c4 : 9223372036854775808 ≤ c
  all_goals first | omega | skip
  all_goals simp only [c1, c2, c3, c4, if_true, if_false] at h ⊢
  all_goals omega
theorem less_same (b c : Nat) (hb : b < 18446744073709551616) (hc : c < 18446744073709551616) (h : kindN b = kindN c) : (double.order b c == some Ordering.lt) = lessB b c := by
  cases nb : nanB b with
  | true =>
    have hc6 : kindN c = 6 := by rw [← h]; exact (kind_six b).2 nb
    have nc := (kind_six c).1 hc6
    rw [order_nan b c hb hc (.inl nb)]
    unfold lessB placeV
    simp [nanB] at nb nc
    simp [nb, nc]
  | false =>
    have nc : nanB c = false := by
      cases nc : nanB c with
      | false => rfl
      | true =>
        have := (kind_six c).2 nc
        rw [← h] at this
        rw [(kind_six b).1 this] at nb; cases nb
    rw [order_eq b c hb hc nb nc, cmp_lt]
    unfold lessB
    rw [decide_eq_decide]
    simp [nanB] at nb nc
    unfold kindN at h
    unfold placeV key
    by_cases b4 : 9223372036854775808 ≤ b
    all_goals by_cases c4 : 9223372036854775808 ≤ c
    all_goals simp only [b4, c4, if_true, if_false] at h ⊢
    all_goals rw [if_neg (by omega)] at h
    all_goals rw [if_neg (show ¬ 9218868437227405312 < rung c by omega)] at h
    all_goals rw [if_neg (by omega), if_neg (by omega)]
    all_goals split at h
    all_goals first | omega | skip
    all_goals split at h
    all_goals first | omega | skip
    all_goals split at h
    all_goals first | omega | skip
    all_goals split at h
    all_goals omega

/-! ### Whole numbers as floats -/
theorem word_pos (r : Nat) : double.word false r = r := rfl
theorem ofInt_pos (n : Nat) : floatOfInt .f64 (n : Int) = rungOf n 0 := by
  have e : decide ((n : Int) < 0) = false := decide_eq_false (by omega)
  unfold floatOfInt FloatKind.nearest FloatKind.encode Format.write
  rw [e]
  show double.nearest false (n : Int).natAbs 0 = _
  rw [nearest_word, word_pos, Int.natAbs_natCast]
theorem ofInt_mono (n m : Nat) (h : n ≤ m) : rungOf n 0 ≤ rungOf m 0 := rungOf_mono_same n m 0 h
theorem of_one : rungOf 1 0 = 4607182418800017408 := by decide +kernel
theorem of_most : rungOf 9223372036854775807 0 = 4890909195324358656 := by decide +kernel
theorem ofInt_range (n : Nat) (h1 : 1 ≤ n) (h2 : n ≤ 9223372036854775807) : 4607182418800017408 ≤ rungOf n 0 ∧ rungOf n 0 ≤ 4890909195324358656 := by
  have a := ofInt_mono 1 n h1
  have b := ofInt_mono n 9223372036854775807 h2
  rw [of_one] at a
  rw [of_most] at b
  exact ⟨a, b⟩

/-! ### Sums, products, quotients -/
theorem write_num (m : Nat) (p : Int) : double.write (.number false m p) = rungOf m p := by
  show double.nearest false m p = _
  rw [nearest_word, word_pos]
theorem write_inf : double.write (.infinity false) = 9218868437227405312 := by decide
theorem neg_no {b : Nat} (h : b ≤ 9218868437227405312) : negB b = false := decide_eq_false (by omega)
theorem read_pos (b : Nat) (h : b < 9218868437227405312) : double.read b = .number false (mant b) (-1074 + (expo b : Int)) := by
  have r := rung_pos (b := b) (by omega)
  have := read_num b (by omega) (by omega)
  rw [this, neg_no (by omega), r]
theorem read_posinf : double.read 9218868437227405312 = .infinity false := by decide

def mulR (a b : Nat) : Nat := rungOf (sv a * sv b) (-2148)
theorem mul_pos (a b : Nat) (ha : a < 9218868437227405312) (hb : b < 9218868437227405312) : double.mul a b = some (mulR a b) := by
  unfold Format.mul
  rw [read_pos a ha, read_pos b hb]
  simp only [Datum.product, Option.map_some, Bool.xor_self]
  rw [write_num]
  unfold mulR
  have e : sv a * sv b = mant a * mant b * 2 ^ (expo a + expo b) := by
    unfold sv; rw [Nat.pow_add]; simp only [Nat.mul_assoc, Nat.mul_left_comm]
  rw [e, rungOf_shift]
  congr 2
  push_cast
  omega
theorem mulR_mono {a b c d : Nat} (h : a ≤ c) (k : b ≤ d) : mulR a b ≤ mulR c d := rungOf_mono_same _ _ _ (Nat.mul_le_mul (sv_le h) (sv_le k))
theorem mulR_le (a b : Nat) : mulR a b ≤ 9218868437227405312 := rungOf_le _ _
theorem mul_inf (a : Nat) (ha : a < 9218868437227405312) : double.mul a 9218868437227405312 = if a = 0 then none else some 9218868437227405312 := by
  unfold Format.mul
  rw [read_pos a ha, read_posinf]
  simp only [Datum.product]
  by_cases h : a = 0
  · rw [if_pos h, h]; rfl
  · rw [if_neg h, if_neg]
    · simp only [Option.map_some, Bool.xor_self, write_inf]
    · unfold mant; split <;> omega

def addR (a b : Nat) : Nat := rungOf (sv a + sv b) (-1074)
theorem add_pos (a b : Nat) (ha : a < 9218868437227405312) (hb : b < 9218868437227405312) (h0 : 0 < a) : double.add a b = some (addR a b) := by
  unfold Format.add
  rw [read_pos a ha, read_pos b hb]
  simp only [Datum.sum, Option.map_some]
  have e1 : (-1074 + (expo a : Int) - min (-1074 + (expo a : Int)) (-1074 + (expo b : Int))).toNat = expo a - min (expo a) (expo b) := by omega
  have e2 : (-1074 + (expo b : Int) - min (-1074 + (expo a : Int)) (-1074 + (expo b : Int))).toNat = expo b - min (expo a) (expo b) := by omega
  have e3 : min (-1074 + (expo a : Int)) (-1074 + (expo b : Int)) = -1074 + (min (expo a) (expo b) : Nat) := by omega
  rw [e1, e2, e3]
  obtain ⟨k, hk⟩ : ∃ k, k = min (expo a) (expo b) := ⟨_, rfl⟩
  have k1 : k ≤ expo a := by omega
  have k2 : k ≤ expo b := by omega
  rw [← hk]
  have e4 : signed false (mant a) (expo a - k) + signed false (mant b) (expo b - k) = ((mant a * 2 ^ (expo a - k) + mant b * 2 ^ (expo b - k) : Nat) : Int) := by
    simp only [signed_ssv, ssv]; push_cast; rfl
  rw [e4]
  have e5 : (mant a * 2 ^ (expo a - k) + mant b * 2 ^ (expo b - k)) * 2 ^ k = sv a + sv b := by
    unfold sv
    rw [Nat.add_mul, Nat.mul_assoc, ← Nat.pow_add, Nat.mul_assoc, ← Nat.pow_add]
    congr 3 <;> omega
  obtain ⟨t, ht⟩ : ∃ t, t = mant a * 2 ^ (expo a - k) + mant b * 2 ^ (expo b - k) := ⟨_, rfl⟩
  rw [← ht] at e5 ⊢
  have hs : 0 < sv a := by have := sv_lt (r := 0) (s := a) h0; omega
  have t0 : t ≠ 0 := by intro h; rw [h] at e5; omega
  rw [if_neg (by omega), decide_eq_false (by omega), Int.natAbs_natCast, write_num]
  unfold addR
  rw [← e5, rungOf_shift]
theorem addR_mono {a b d : Nat} (k : b ≤ d) : addR a b ≤ addR a d := rungOf_mono_same _ _ _ (Nat.add_le_add_left (sv_le k) _)
theorem addR_le (a b : Nat) : addR a b ≤ 9218868437227405312 := rungOf_le _ _
theorem add_inf (a : Nat) (ha : a < 9218868437227405312) : double.add a 9218868437227405312 = some 9218868437227405312 := by
  unfold Format.add
  rw [read_pos a ha, read_posinf]
  rfl

/-- A quotient's digits, with one more that tells whether anything is left. -/
def quoT (m n k : Nat) : Nat := 2 * (m * 2 ^ k / n) + (m * 2 ^ k % n != 0).toNat
def divK (a b : Nat) : Nat := 54 + (mant b).log2 - (mant a).log2
def divR (a b : Nat) : Nat := rungOf (quoT (mant a) (mant b) (divK a b)) ((expo a : Int) - expo b - divK a b - 1)
theorem mant_pos {b : Nat} (h : 0 < b) : mant b ≠ 0 := by unfold mant; split <;> omega
theorem div_pos (a b : Nat) (ha : a < 9218868437227405312) (hb : b < 9218868437227405312) (h0 : 0 < b) : double.div a b = some (divR a b) := by
  unfold Format.div
  rw [read_pos a ha, read_pos b hb]
  simp only [Datum.quotient, if_neg (mant_pos h0), Option.map_some, Bool.xor_self, Nat.shiftLeft_eq]
  rw [write_num]
  unfold divR quoT divK
  rw [show double.fractionBits + 2 = 54 from rfl]
  congr 2
  omega
theorem divR_le (a b : Nat) : divR a b ≤ 9218868437227405312 := rungOf_le _ _

theorem log_mant (a : Nat) (h : 4503599627370496 ≤ a) : (mant a).log2 = 52 := by
  have h1 := le_mant a h
  have h2 := mant_lt a
  exact (Nat.log2_eq_iff (by omega)).2 ⟨h1, h2⟩
theorem quoT_mono (m m' n k : Nat) (h : m ≤ m') : quoT m n k ≤ quoT m' n k := by
  unfold quoT
  have h1 : m * 2 ^ k ≤ m' * 2 ^ k := Nat.mul_le_mul_right _ h
  generalize m * 2 ^ k = x at *
  generalize m' * 2 ^ k = y at *
  have h2 : x / n ≤ y / n := Nat.div_le_div_right h1
  have b1 : (x % n != 0).toNat ≤ 1 := Bool.toNat_le _
  rcases Nat.lt_or_eq_of_le h2 with c | c
  · omega
  · have d1 := Nat.div_add_mod x n
    have d2 := Nat.div_add_mod y n
    rw [c] at d1
    by_cases z : x % n = 0
    · rw [z, c]; simp
    · have z' : ¬ y % n = 0 := by omega
      rw [c, show (x % n != 0) = true by simp [z], show (y % n != 0) = true by simp [z']]
      omega
/-- With fewer digits, but all shifted by one place at least, the quotient is the greater. -/
theorem quoT_far (m m' n k d : Nat) (hn : 0 < n) (hm : m + 1 ≤ 2 * m') (hk : 2 * n ≤ 2 ^ k) (hd : 1 ≤ d) : quoT m n k ≤ quoT m' n k * 2 ^ d := by
  have p : 2 ≤ 2 ^ d := by
    have := Nat.pow_le_pow_right (n := 2) (by omega) hd
    simpa using this
  refine Nat.le_trans ?_ (Nat.mul_le_mul_left _ p)
  unfold quoT
  have h1 : (m + 1) * 2 ^ k ≤ 2 * m' * 2 ^ k := Nat.mul_le_mul_right _ hm
  rw [Nat.add_mul, Nat.one_mul, Nat.mul_assoc] at h1
  generalize m * 2 ^ k = x at *
  generalize m' * 2 ^ k = y at *
  generalize 2 ^ k = z at *
  have b1 : (x % n != 0).toNat ≤ 1 := Bool.toNat_le _
  have d1 := Nat.div_add_mod x n
  have d2 := Nat.div_add_mod y n
  have l2 := Nat.mod_lt y hn
  -- the one quotient is at most twice the other, less one
  have h3 : n * (x / n) < n * (2 * (y / n)) := by
    rw [Nat.mul_left_comm]
    omega
  have h4 := Nat.lt_of_mul_lt_mul_left h3
  omega
theorem divR_mono (a a' b : Nat) (h : a ≤ a') (hn : 4503599627370496 ≤ a) (h0 : 0 < b) : divR a b ≤ divR a' b := by
  have l1 := log_mant a hn
  have l2 := log_mant a' (by omega)
  have m0 := mant_pos h0
  obtain ⟨k, hk⟩ : ∃ k, k = 54 + (mant b).log2 - 52 := ⟨_, rfl⟩
  have k1 : divK a b = k := by unfold divK; rw [l1, hk]
  have k2 : divK a' b = k := by unfold divK; rw [l2, hk]
  unfold divR
  rw [k1, k2]
  have he : expo a ≤ expo a' := by unfold expo; omega
  rcases Nat.lt_or_eq_of_le he with c | c
  · obtain ⟨d, hd⟩ : ∃ d, expo a' = expo a + d := ⟨expo a' - expo a, by omega⟩
    have e : ((expo a' : Int) - expo b - k - 1) = ((expo a : Int) - expo b - k - 1) + (d : Int) := by rw [hd]; push_cast; omega
    rw [e, ← rungOf_shift]
    refine rungOf_mono_same _ _ _ (quoT_far _ _ _ _ _ (by omega) ?_ ?_ (by omega))
    · have g1 := mant_lt a
      have g2 := le_mant a' (by omega)
      rw [show (2 : Nat) ^ 53 = 2 * 2 ^ 52 by decide] at g1
      omega
    · have g1 : mant b < 2 ^ ((mant b).log2 + 1) := Nat.lt_log2_self
      have g2 : 2 ^ k = 2 * 2 ^ ((mant b).log2 + 1) := by rw [hk, show 54 + (mant b).log2 - 52 = (mant b).log2 + 1 + 1 by omega, Nat.pow_succ, Nat.mul_comm]
      omega
  · rw [c]
    refine rungOf_mono_same _ _ _ (quoT_mono _ _ _ _ ?_)
    unfold mant; unfold expo at c
    rw [if_neg (by omega), if_neg (by omega)]
    omega

/-! ### A number made whole -/
def floorR (a : Nat) : Nat := sv a / 2 ^ 1074
theorem floorR_mono {a b : Nat} (h : a ≤ b) : floorR a ≤ floorR b := Nat.div_le_div_right (sv_le h)
theorem cut_zero (neg : Bool) (n drop : Nat) : Toward.zero.cut neg n drop = n / 2 ^ drop := by
  unfold Toward.cut
  simp only [Nat.one_shiftLeft, Bool.toNat_false, Nat.add_zero]
  rcases Nat.lt_or_ge (n.log2 + 2) drop with c | c
  · rw [Nat.min_eq_right (by omega)]
    have h1 : n < 2 ^ (n.log2 + 1) := Nat.lt_log2_self
    have h2 : 2 ^ (n.log2 + 2) = 2 * 2 ^ (n.log2 + 1) := by rw [Nat.pow_succ 2 (n.log2 + 1), Nat.mul_comm]
    have h3 : 2 ^ (n.log2 + 2) ≤ 2 ^ drop := Nat.pow_le_pow_right (by omega) (by omega)
    rw [Nat.div_eq_of_lt (by omega), Nat.div_eq_of_lt (by omega)]
  · rw [Nat.min_eq_left c]
theorem toInt_pos (a : Nat) (ha : a < 9218868437227405312) : (double.read a).toInt .zero = some ((floorR a : Nat) : Int) := by
  rw [read_pos a ha]
  simp only [Datum.toInt, Datum.integral, cut_zero, signed_ssv, ssv, Nat.shiftLeft_eq, Nat.pow_zero, Nat.mul_one]
  congr 2
  unfold floorR sv
  rcases Nat.lt_or_ge (expo a) 1074 with c | c
  · have e1 : (-1074 + (expo a : Int)).toNat = 0 := by omega
    have e2 : (-(-1074 + (expo a : Int))).toNat = 1074 - expo a := by omega
    rw [e1, e2, Nat.pow_zero, Nat.mul_one, if_neg (by simp)]
    have e3 : 2 ^ 1074 = 2 ^ (1074 - expo a) * 2 ^ expo a := by rw [← Nat.pow_add]; congr 1; omega
    rw [e3, Nat.mul_div_mul_right _ _ (Nat.two_pow_pos _)]
  · have e1 : (-1074 + (expo a : Int)).toNat = expo a - 1074 := by omega
    have e2 : (-(-1074 + (expo a : Int))).toNat = 0 := by omega
    rw [e1, e2, Nat.pow_zero, Nat.div_one, if_neg (by simp)]
    obtain ⟨k, hk⟩ : ∃ k, k = 1074 := ⟨_, rfl⟩
    rw [← hk] at c ⊢
    have e3 : 2 ^ expo a = 2 ^ (expo a - k) * 2 ^ k := by rw [← Nat.pow_add]; congr 1; omega
    rw [e3, ← Nat.mul_assoc, Nat.mul_div_cancel _ (Nat.two_pow_pos _)]
end Go.Proofs.YtepnhddileadmaaDoor
