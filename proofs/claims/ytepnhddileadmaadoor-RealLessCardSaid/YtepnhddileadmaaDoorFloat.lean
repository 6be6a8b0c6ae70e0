/- Floats of 64 bits as whole numbers: what rounding gives, and that it keeps order. No Go in sight. -/
import Derived.WalkLawsBesides
namespace Go.Proofs.YtepnhddileadmaaDoor
open Ieee

/-- A quotient, to the nearest; between two, the even one. -/
def rne (num den : Nat) : Nat :=
  num / den + (decide (den < 2 * (num % den)) || (den == 2 * (num % den) && num / den % 2 == 1)).toNat

theorem lt_rne (k num den : Nat) (hd : 0 < den) : k < rne num den ↔ (2 * k + 1) * den < 2 * num ∨ ((2 * k + 1) * den = 2 * num ∧ k % 2 = 1) := by
  obtain ⟨q, hq⟩ : ∃ q, q = num / den := ⟨_, rfl⟩
  obtain ⟨r, hr⟩ : ∃ r, r = num % den := ⟨_, rfl⟩
  have h1 : den * q + r = num := by rw [hq, hr]; exact Nat.div_add_mod num den
  have h2 : r < den := by rw [hr]; exact Nat.mod_lt _ hd
  have e : rne num den = q + (decide (den < 2 * r) || (den == 2 * r && q % 2 == 1)).toNat := by rw [rne, ← hq, ← hr]
  rw [e]
  have h3 : (2 * k + 1) * den = 2 * (den * k) + den := by rw [Nat.add_mul, Nat.mul_assoc, Nat.mul_comm k den, Nat.one_mul]
  rw [h3]
  have hb1 : (decide (den < 2 * r) || (den == 2 * r && q % 2 == 1)).toNat ≤ 1 := Bool.toNat_le _
  rcases (by omega : k < q ∨ k = q ∨ q < k) with c | c | c
  · have h4 : den * (k + 1) ≤ den * q := Nat.mul_le_mul_left _ c
    rw [Nat.mul_add, Nat.mul_one] at h4
    constructor
    · intro _; left; omega
    · intro _; omega
  · subst c
    cases hb : (decide (den < 2 * r) || (den == 2 * r && k % 2 == 1)) with
    | true =>
      simp at hb
      constructor
      · intro _; omega
      · intro _; simp
    | false =>
      simp at hb
      constructor
      · intro h; simp at h
      · intro h; exfalso; omega
  · have h4 : den * (q + 1) ≤ den * k := Nat.mul_le_mul_left _ c
    rw [Nat.mul_add, Nat.mul_one] at h4
    constructor
    · intro h; omega
    · intro h; exfalso; omega

theorem rne_mono (n d n' d' : Nat) (hd : 0 < d) (hd' : 0 < d') (h : n * d' ≤ n' * d) : rne n d ≤ rne n' d' := by
  rcases Nat.lt_or_ge (rne n' d') (rne n d) with c | c
  · exfalso
    have h1 := (lt_rne _ n d hd).1 c
    have h2 : ¬ rne n' d' < rne n' d' := Nat.lt_irrefl _
    rw [lt_rne _ n' d' hd'] at h2
    obtain ⟨k, hk⟩ : ∃ k, k = rne n' d' := ⟨_, rfl⟩
    rw [← hk] at h1 h2
    -- the product of all
    have p1 : (2 * k + 1) * d ≤ 2 * n := by rcases h1 with h1 | h1 <;> omega
    have p2 : (2 * k + 1) * d * d' ≤ 2 * n * d' := Nat.mul_le_mul_right _ p1
    have p3 : 2 * n * d' ≤ 2 * n' * d := by rw [Nat.mul_assoc, Nat.mul_assoc]; exact Nat.mul_le_mul_left _ h
    have p4 : (2 * k + 1) * d * d' = (2 * k + 1) * d' * d := by rw [Nat.mul_assoc, Nat.mul_comm d d', ← Nat.mul_assoc]
    have p5 : (2 * k + 1) * d' ≤ 2 * n' := Nat.le_of_mul_le_mul_right (by omega : (2 * k + 1) * d' * d ≤ 2 * n' * d) hd
    rcases Nat.lt_or_ge ((2 * k + 1) * d') (2 * n') with g | g
    · exact h2 (.inl g)
    · have e1 : (2 * k + 1) * d' = 2 * n' := by omega
      rcases h1 with h1 | h1
      · have p6 : (2 * k + 1) * d * d' < 2 * n * d' := (Nat.mul_lt_mul_right hd').2 h1
        rw [p4, e1] at p6; omega
      · exact h2 (.inr ⟨e1, h1.2⟩)
  · exact c

theorem rne_congr (n d n' d' : Nat) (hd : 0 < d) (hd' : 0 < d') (h : n * d' = n' * d) : rne n d = rne n' d' :=
  Nat.le_antisymm (rne_mono n d n' d' hd hd' (Nat.le_of_eq h)) (rne_mono n' d' n d hd' hd (Nat.le_of_eq h.symm))

theorem cut_even (neg : Bool) (n drop : Nat) : Toward.even.cut neg n drop = rne n (2 ^ drop) := by
  unfold Toward.cut rne
  simp only [Nat.one_shiftLeft]
  rcases Nat.lt_or_ge (n.log2 + 2) drop with c | c
  · rw [Nat.min_eq_right (by omega)]
    have h1 : n < 2 ^ (n.log2 + 1) := Nat.lt_log2_self
    have h2 : 2 ^ (n.log2 + 2) = 2 * 2 ^ (n.log2 + 1) := by rw [Nat.pow_succ 2 (n.log2 + 1), Nat.mul_comm]
    have h3 : 2 ^ (n.log2 + 2) ≤ 2 ^ drop := Nat.pow_le_pow_right (by omega) (by omega)
    have e1 : decide (2 ^ (n.log2 + 2) < 2 * n) = false := decide_eq_false (by omega)
    have e2 : decide (2 ^ drop < 2 * n) = false := decide_eq_false (by omega)
    have e3 : n % 2 ^ drop = n := Nat.mod_eq_of_lt (by omega)
    have e4 : n % 2 ^ (n.log2 + 2) = n := Nat.mod_eq_of_lt (by omega)
    have e5 : n / 2 ^ drop = 0 := Nat.div_eq_of_lt (by omega)
    have e6 : n / 2 ^ (n.log2 + 2) = 0 := Nat.div_eq_of_lt (by omega)
    rw [e3, e4, e5, e6, e1, e2]; simp
  · rw [Nat.min_eq_left c]

/-- The rung that is nearest to a number without a sign. -/

theorem d_binade : double.binade = 4503599627370496 := by decide
theorem d_inf : double.infRung = 9218868437227405312 := by decide
theorem d_sign : double.signWeight = 9223372036854775808 := by decide
theorem d_least : double.leastPlace = -1074 := by decide
theorem d_bits : double.fractionBits = 52 := rfl

/-- The place of the last digit that is kept. -/
def lastOf (mag : Nat) (place : Int) : Int := max (place + mag.log2 - 52) (-1074)
def keptOf (mag : Nat) (place : Int) : Nat := rne (mag * 2 ^ (place - lastOf mag place).toNat) (2 ^ (lastOf mag place - place).toNat)
def rungOf (mag : Nat) (place : Int) : Nat :=
  if mag = 0 then 0 else min ((lastOf mag place + 1074).toNat * 4503599627370496 + keptOf mag place) 9218868437227405312

theorem nearest_word (neg : Bool) (mag : Nat) (place : Int) : double.nearest neg mag place = double.word neg (rungOf mag place) := by
  unfold rungOf Format.nearest
  by_cases h : mag = 0
  · rw [if_pos h, if_pos h]
  · rw [if_neg h, if_neg h]
    simp only [cut_even, Nat.shiftLeft_eq, d_binade, d_inf, d_least, d_bits, Int.sub_neg]
    rfl

theorem rungOf_zero (place : Int) : rungOf 0 place = 0 := if_pos rfl

theorem rungOf_eq (mag : Nat) (place : Int) (h : mag ≠ 0) : rungOf mag place = min ((lastOf mag place + 1074).toNat * 4503599627370496 + keptOf mag place) 9218868437227405312 := if_neg h

theorem log2_shift (m a : Nat) (h : m ≠ 0) : (m * 2 ^ a).log2 = m.log2 + a := by
  rw [Nat.log2_eq_iff (Nat.mul_ne_zero h (Nat.ne_of_gt (Nat.two_pow_pos a)))]
  have h1 := (Nat.log2_eq_iff h).1 rfl
  constructor
  · rw [Nat.pow_add]; exact Nat.mul_le_mul_right _ h1.1
  · rw [show m.log2 + a + 1 = m.log2 + 1 + a by omega, Nat.pow_add]; exact (Nat.mul_lt_mul_right (Nat.two_pow_pos a)).2 h1.2

/-- The same number, with its digits shifted. -/
theorem rungOf_shift (m a : Nat) (b : Int) : rungOf (m * 2 ^ a) b = rungOf m (b + a) := by
  by_cases h : m = 0
  · subst h; rw [Nat.zero_mul, rungOf_zero, rungOf_zero]
  · have h' : m * 2 ^ a ≠ 0 := Nat.mul_ne_zero h (Nat.ne_of_gt (Nat.two_pow_pos a))
    rw [rungOf_eq _ _ h, rungOf_eq _ _ h']
    have hl : lastOf (m * 2 ^ a) b = lastOf m (b + a) := by
      unfold lastOf
      rw [log2_shift m a h]
      congr 1
      push_cast
      omega
    have hk : keptOf (m * 2 ^ a) b = keptOf m (b + a) := by
      unfold keptOf
      rw [hl]
      generalize lastOf m (b + a) = L
      refine rne_congr _ _ _ _ (Nat.two_pow_pos _) (Nat.two_pow_pos _) ?_
      rw [Nat.mul_assoc m, ← Nat.pow_add, Nat.mul_assoc m, ← Nat.pow_add, Nat.mul_assoc m, ← Nat.pow_add]
      congr 2
      omega
    rw [hl, hk]

theorem rne_le (n d K : Nat) (hd : 0 < d) (h : n ≤ K * d) : rne n d ≤ K := by
  rcases Nat.lt_or_ge K (rne n d) with c | c
  · exfalso
    have this := (lt_rne _ _ _ hd).1 c
    have e2 : (2 * K + 1) * d = 2 * (K * d) + d := by rw [Nat.add_mul, Nat.mul_assoc, Nat.one_mul]
    omega
  · exact c
theorem le_rne (n d K : Nat) (hd : 0 < d) (h : K * d ≤ n) : K ≤ rne n d := by
  cases K with
  | zero => exact Nat.zero_le _
  | succ k =>
    refine (lt_rne k n d hd).2 (.inl ?_)
    have e2 : (2 * k + 1) * d = 2 * (k * d) + d := by rw [Nat.add_mul, Nat.mul_assoc, Nat.one_mul]
    have e3 : (k + 1) * d = k * d + d := by rw [Nat.add_mul, Nat.one_mul]
    omega

theorem keptOf_le (m : Nat) (b : Int) : keptOf m b ≤ 2 ^ 53 := by
  unfold keptOf
  have h1 : m < 2 ^ (m.log2 + 1) := Nat.lt_log2_self
  obtain ⟨L, hL⟩ : ∃ L, L = lastOf m b := ⟨_, rfl⟩
  rw [← hL]
  have h2 : b + m.log2 - 52 ≤ L := by rw [hL]; unfold lastOf; omega
  refine rne_le _ _ _ (Nat.two_pow_pos _) ?_
  have e1 : m * 2 ^ (b - L).toNat ≤ 2 ^ (m.log2 + 1) * 2 ^ (b - L).toNat := Nat.mul_le_mul_right _ (Nat.le_of_lt h1)
  refine Nat.le_trans e1 ?_
  rw [← Nat.pow_add, ← Nat.pow_add]
  exact Nat.pow_le_pow_right (by omega) (by omega)

theorem le_keptOf (m : Nat) (b : Int) (h : m ≠ 0) (hl : -1074 < lastOf m b) : 2 ^ 52 ≤ keptOf m b := by
  unfold keptOf
  have h1 : 2 ^ m.log2 ≤ m := Nat.log2_self_le h
  obtain ⟨L, hL⟩ : ∃ L, L = lastOf m b := ⟨_, rfl⟩
  rw [← hL] at hl ⊢
  have h2 : L = b + m.log2 - 52 := by unfold lastOf at hL; omega
  refine le_rne _ _ _ (Nat.two_pow_pos _) ?_
  refine Nat.le_trans ?_ (Nat.mul_le_mul_right _ h1)
  rw [← Nat.pow_add, ← Nat.pow_add]
  exact Nat.pow_le_pow_right (by omega) (by omega)

theorem rungOf_mono_same (m m' : Nat) (b : Int) (h : m ≤ m') : rungOf m b ≤ rungOf m' b := by
  by_cases h0 : m = 0
  · subst h0; rw [rungOf_zero]; exact Nat.zero_le _
  · have h0' : m' ≠ 0 := by omega
    rw [rungOf_eq _ _ h0, rungOf_eq _ _ h0']
    have hlog : m.log2 ≤ m'.log2 := by
      rw [Nat.le_log2 h0']; exact Nat.le_trans (Nat.log2_self_le h0) h
    have hlast : lastOf m b ≤ lastOf m' b := by unfold lastOf; omega
    have hlow : -1074 ≤ lastOf m b := by unfold lastOf; omega
    rcases Int.lt_or_eq_of_le hlast with c | c
    · have k1 := keptOf_le m b
      have k2 := le_keptOf m' b h0' (by omega)
      omega
    · have k : keptOf m b ≤ keptOf m' b := by
        unfold keptOf
        rw [c]
        generalize lastOf m' b = L
        refine rne_mono _ _ _ _ (Nat.two_pow_pos _) (Nat.two_pow_pos _) ?_
        exact Nat.mul_le_mul_right _ (Nat.mul_le_mul_right _ h)
      omega

/-- Rounding keeps order. -/
theorem rungOf_mono (m m' a a' : Nat) (b : Int) (h : m * 2 ^ a ≤ m' * 2 ^ a') : rungOf m (b + a) ≤ rungOf m' (b + a') := by
  rw [← rungOf_shift, ← rungOf_shift]
  exact rungOf_mono_same _ _ _ h

theorem rungOf_le (m : Nat) (b : Int) : rungOf m b ≤ 9218868437227405312 := by
  by_cases h0 : m = 0
  · subst h0; rw [rungOf_zero]; omega
  · rw [rungOf_eq _ _ h0]; omega
end Go.Proofs.YtepnhddileadmaaDoor
