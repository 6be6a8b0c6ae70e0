/- Plain facts: the library's sum of bits, by fields of two, four and eight bits, is how many bits there are. No Go in sight. -/
import Derived.Test.YtmnbpnjakbihdaaPop
set_option linter.unusedVariables false
namespace Go.Proofs.Ytmnbpnjakbihdaa

theorem and_split (a b c d : Nat) (hc : c < 256) (hd : d < 256) : (256 * a + c) &&& (256 * b + d) = 256 * (a &&& b) + (c &&& d) := by
  have e : (256 : Nat) = 2 ^ 8 := by decide
  have hcd : c &&& d < 2 ^ 8 := Nat.and_lt_two_pow _ (by rw [← e]; exact hd)
  apply Nat.eq_of_testBit_eq
  intro i
  rw [e] at hc hd ⊢
  rw [Nat.testBit_and, Nat.testBit_two_pow_mul_add _ hc, Nat.testBit_two_pow_mul_add _ hd, Nat.testBit_two_pow_mul_add _ hcd]
  split <;> rw [Nat.testBit_and]

/-- j bytes, each c. -/
def rep (c : Nat) : Nat → Nat
  | 0 => 0
  | j + 1 => 256 * rep c j + c
theorem rep55 : rep 85 8 = 6148914691236517205 := by decide +kernel
theorem rep33 : rep 51 8 = 3689348814741910323 := by decide +kernel
theorem rep0f : rep 15 8 = 1085102592571150095 := by decide +kernel

def s1 (j x : Nat) : Nat := (x / 2 &&& rep 85 j) + (x &&& rep 85 j)
def s2 (j x : Nat) : Nat := (x / 4 &&& rep 51 j) + (x &&& rep 51 j)
def s3 (j x : Nat) : Nat := (x / 16 + x) &&& rep 15 j
def b1 (b : Nat) : Nat := (b / 2 &&& 85) + (b &&& 85)
def b2 (b : Nat) : Nat := (b / 4 &&& 51) + (b &&& 51)
def pop8 (b : Nat) : Nat := (List.range 8).countP b.testBit

theorem f1 : ∀ t, t < 2 → ∀ b, b < 256 → (t * 128 + b / 2) &&& 85 = b / 2 &&& 85 := by decide +kernel
theorem f2 : ∀ t, t < 4 → ∀ b, b < 256 → (t * 64 + b / 4) &&& 51 = b / 4 &&& 51 := by decide +kernel
theorem g1 : ∀ b, b < 256 → b1 b < 256 ∧ b2 (b1 b) < 256 ∧ b2 (b1 b) % 16 ≤ 4 ∧ b2 (b1 b) / 16 ≤ 4 ∧ pop8 b ≤ 8 := by decide +kernel
theorem f3 : ∀ t, t < 5 → ∀ b, b < 256 → (16 * t + b2 (b1 b) / 16 + b2 (b1 b)) &&& 15 = pop8 b := by decide +kernel

theorem s1_next (j a b : Nat) (hb : b < 256) : s1 (j + 1) (256 * a + b) = 256 * s1 j a + b1 b := by
  unfold s1 b1
  have e : (256 * a + b) / 2 = 256 * (a / 2) + (a % 2 * 128 + b / 2) := by omega
  rw [e, rep, and_split _ _ _ _ (by omega) (by omega), and_split _ _ _ _ hb (by omega), f1 (a % 2) (by omega) b hb]
  omega
theorem s2_next (j a b : Nat) (hb : b < 256) : s2 (j + 1) (256 * a + b) = 256 * s2 j a + b2 b := by
  unfold s2 b2
  have e : (256 * a + b) / 4 = 256 * (a / 4) + (a % 4 * 64 + b / 4) := by omega
  rw [e, rep, and_split _ _ _ _ (by omega) (by omega), and_split _ _ _ _ hb (by omega), f2 (a % 4) (by omega) b hb]
  omega
def s12 (j x : Nat) : Nat := s2 j (s1 j x)
theorem s12_next (j a b : Nat) (hb : b < 256) : s12 (j + 1) (256 * a + b) = 256 * s12 j a + b2 (b1 b) := by
  unfold s12
  rw [s1_next j a b hb, s2_next j _ _ (g1 b hb).1]
theorem s12_low (j x : Nat) : s12 j x % 16 ≤ 4 := by
  cases j with
  | zero => simp [s12, s1, s2, rep]
  | succ j =>
    have e : x = 256 * (x / 256) + x % 256 := by omega
    have hb : x % 256 < 256 := Nat.mod_lt _ (by omega)
    rw [e, s12_next _ _ _ hb]
    have := (g1 _ hb).2.2.1
    omega
def s123 (j x : Nat) : Nat := s3 j (s12 j x)
theorem s123_next (j a b : Nat) (hb : b < 256) : s123 (j + 1) (256 * a + b) = 256 * s123 j a + pop8 b := by
  have hl := s12_low j a
  have h1 := (g1 b hb).2.1
  have h2 := (g1 b hb).2.2.1
  have h3 := (g1 b hb).2.2.2.1
  have h4 := f3 (s12 j a % 16) (by omega) b hb
  unfold s123 s3
  rw [s12_next j a b hb]
  generalize b2 (b1 b) = v at h1 h2 h3 h4
  generalize s12 j a = u at hl h4
  have e : (256 * u + v) / 16 + (256 * u + v) = 256 * (u / 16 + u) + (16 * (u % 16) + v / 16 + v) := by omega
  rw [e, rep, and_split _ _ _ _ (by omega) (by omega), h4]
theorem s123_zero (x : Nat) : s123 0 x = 0 := by simp [s123, s3, rep]

/-- How many bits the first j bytes have. -/
theorem count_next (j a b : Nat) (hb : b < 256) : (List.range (8 * (j + 1))).countP (256 * a + b).testBit = pop8 b + (List.range (8 * j)).countP a.testBit := by
  have e : 8 * (j + 1) = 8 + 8 * j := by omega
  have e2 : (256 : Nat) = 2 ^ 8 := by decide
  rw [e, List.range_add, List.countP_append, List.countP_map]
  unfold pop8
  rw [e2] at hb ⊢
  congr 1
  · apply List.countP_congr
    intro i hi
    have : i < 8 := by simpa using hi
    rw [Nat.testBit_two_pow_mul_add _ hb, if_pos this]
  · apply List.countP_congr
    intro i _
    simp only [Function.comp]
    rw [Nat.testBit_two_pow_mul_add _ hb, if_neg (by omega)]
    simp
/-- Of eight bytes. -/
theorem bytes8 (x : Nat) : ∃ p0 p1 p2 p3 p4 p5 p6 p7 : Nat, p0 ≤ 8 ∧ p1 ≤ 8 ∧ p2 ≤ 8 ∧ p3 ≤ 8 ∧ p4 ≤ 8 ∧ p5 ≤ 8 ∧ p6 ≤ 8 ∧ p7 ≤ 8 ∧
    s123 8 x = p0 + 256 * (p1 + 256 * (p2 + 256 * (p3 + 256 * (p4 + 256 * (p5 + 256 * (p6 + 256 * p7)))))) ∧ (allN x).length = p0 + (p1 + (p2 + (p3 + (p4 + (p5 + (p6 + p7)))))) := by
  have one : ∀ j y, s123 (j + 1) y = 256 * s123 j (y / 256) + pop8 (y % 256) := fun j y => by
    have e : y = 256 * (y / 256) + y % 256 := by omega
    conv => lhs; rw [e]
    exact s123_next j _ _ (Nat.mod_lt _ (by omega))
  have two : ∀ j y, (List.range (8 * (j + 1))).countP y.testBit = pop8 (y % 256) + (List.range (8 * j)).countP (y / 256).testBit := fun j y => by
    have e : y = 256 * (y / 256) + y % 256 := by omega
    conv => lhs; rw [e]
    exact count_next j _ _ (Nat.mod_lt _ (by omega))
  have le : ∀ y, pop8 (y % 256) ≤ 8 := fun y => (g1 _ (Nat.mod_lt _ (by omega))).2.2.2.2
  refine ⟨_, _, _, _, _, _, _, _, le x, le (x / 256), le (x / 256 / 256), le (x / 256 / 256 / 256), le (x / 256 / 256 / 256 / 256), le (x / 256 / 256 / 256 / 256 / 256), le (x / 256 / 256 / 256 / 256 / 256 / 256), le (x / 256 / 256 / 256 / 256 / 256 / 256 / 256), ?_, ?_⟩
  · rw [one 7, one 6, one 5, one 4, one 3, one 2, one 1, one 0, s123_zero]
    omega
  · unfold allN
    rw [← List.countP_eq_length_filter, show (64 : Nat) = 8 * (7 + 1) from rfl, two 7, two 6, two 5, two 4, two 3, two 2, two 1, two 0]
    simp
theorem dv1 (p q : Nat) (h : p < 256) : (p + 256 * q) / 256 = q := by omega
theorem dv2 (a b z : Nat) (h : a < 256) (k : b < 256) : (a + 256 * (b + 256 * z)) / 65536 = z := by omega
theorem dv4 (a b c d z : Nat) (h : a < 256) (k : b < 256) (i : c < 256) (j : d < 256) : (a + 256 * (b + 256 * (c + 256 * (d + 256 * z)))) / 4294967296 = z := by omega
theorem md1 (a r : Nat) (h : a < 128) : (a + 256 * r) % 128 = a := by omega
theorem sum2 (a b x y : Nat) : (a + 256 * x) + (b + 256 * y) = (a + b) + 256 * (x + y) := by omega
theorem lt2 (a x B : Nat) (h : a < 256) (k : x < B) : a + 256 * x < 256 * B := by omega
theorem n60 : (1152921504606846976 : Nat) = 256 * (256 * (256 * (256 * (256 * (256 * (256 * 16)))))) := by decide +kernel
theorem lt8 (p0 p1 p2 p3 p4 p5 p6 p7 : Nat) (h0 : p0 ≤ 64) (h1 : p1 ≤ 64) (h2 : p2 ≤ 64) (h3 : p3 ≤ 64) (h4 : p4 ≤ 64) (h5 : p5 ≤ 64) (h6 : p6 ≤ 64) (h7 : p7 ≤ 8) : p0 + 256 * (p1 + 256 * (p2 + 256 * (p3 + 256 * (p4 + 256 * (p5 + 256 * (p6 + 256 * p7)))))) < 1152921504606846976 :=
  Nat.lt_of_lt_of_eq (lt2 _ _ _ (by omega) (lt2 _ _ _ (by omega) (lt2 _ _ _ (by omega) (lt2 _ _ _ (by omega) (lt2 _ _ _ (by omega) (lt2 _ _ _ (by omega) (lt2 _ _ _ (by omega) (by omega)))))))) n60.symm
theorem stepY (p0 p1 p2 p3 p4 p5 p6 p7 : Nat) (h0 : p0 ≤ 8) (h1 : p1 ≤ 8) (h2 : p2 ≤ 8) (h3 : p3 ≤ 8) (h4 : p4 ≤ 8) (h5 : p5 ≤ 8) (h6 : p6 ≤ 8) (h7 : p7 ≤ 8) : (p0 + 256 * (p1 + 256 * (p2 + 256 * (p3 + 256 * (p4 + 256 * (p5 + 256 * (p6 + 256 * p7))))))) + (p0 + 256 * (p1 + 256 * (p2 + 256 * (p3 + 256 * (p4 + 256 * (p5 + 256 * (p6 + 256 * p7))))))) / 256 = (p0 + p1) + 256 * ((p1 + p2) + 256 * ((p2 + p3) + 256 * ((p3 + p4) + 256 * ((p4 + p5) + 256 * ((p5 + p6) + 256 * ((p6 + p7) + 256 * p7)))))) := by
  rw [dv1 _ _ (by omega), sum2, sum2, sum2, sum2, sum2, sum2]
  have : p6 + 256 * p7 + p7 = p6 + p7 + 256 * p7 := by omega
  rw [this]
theorem stepZ (p0 p1 p2 p3 p4 p5 p6 p7 : Nat) (h0 : p0 ≤ 8) (h1 : p1 ≤ 8) (h2 : p2 ≤ 8) (h3 : p3 ≤ 8) (h4 : p4 ≤ 8) (h5 : p5 ≤ 8) (h6 : p6 ≤ 8) (h7 : p7 ≤ 8) : ((p0 + p1) + 256 * ((p1 + p2) + 256 * ((p2 + p3) + 256 * ((p3 + p4) + 256 * ((p4 + p5) + 256 * ((p5 + p6) + 256 * ((p6 + p7) + 256 * p7))))))) + ((p0 + p1) + 256 * ((p1 + p2) + 256 * ((p2 + p3) + 256 * ((p3 + p4) + 256 * ((p4 + p5) + 256 * ((p5 + p6) + 256 * ((p6 + p7) + 256 * p7))))))) / 65536 = (p0 + p1 + (p2 + p3)) + 256 * ((p1 + p2 + (p3 + p4)) + 256 * ((p2 + p3 + (p4 + p5)) + 256 * ((p3 + p4 + (p5 + p6)) + 256 * ((p4 + p5 + (p6 + p7)) + 256 * ((p5 + p6 + p7) + 256 * ((p6 + p7) + 256 * p7)))))) := by
  rw [dv2 _ _ _ (by omega) (by omega), sum2, sum2, sum2, sum2, sum2]
  have : p5 + p6 + 256 * (p6 + p7 + 256 * p7) + p7 = p5 + p6 + p7 + 256 * (p6 + p7 + 256 * p7) := by omega
  rw [this]
theorem stepT (p0 p1 p2 p3 p4 p5 p6 p7 : Nat) (h0 : p0 ≤ 8) (h1 : p1 ≤ 8) (h2 : p2 ≤ 8) (h3 : p3 ≤ 8) (h4 : p4 ≤ 8) (h5 : p5 ≤ 8) (h6 : p6 ≤ 8) (h7 : p7 ≤ 8) : ((p0 + p1 + (p2 + p3)) + 256 * ((p1 + p2 + (p3 + p4)) + 256 * ((p2 + p3 + (p4 + p5)) + 256 * ((p3 + p4 + (p5 + p6)) + 256 * ((p4 + p5 + (p6 + p7)) + 256 * ((p5 + p6 + p7) + 256 * ((p6 + p7) + 256 * p7))))))) + ((p0 + p1 + (p2 + p3)) + 256 * ((p1 + p2 + (p3 + p4)) + 256 * ((p2 + p3 + (p4 + p5)) + 256 * ((p3 + p4 + (p5 + p6)) + 256 * ((p4 + p5 + (p6 + p7)) + 256 * ((p5 + p6 + p7) + 256 * ((p6 + p7) + 256 * p7))))))) / 4294967296 = (p0 + p1 + (p2 + p3) + (p4 + p5 + (p6 + p7))) + 256 * ((p1 + p2 + (p3 + p4) + (p5 + p6 + p7)) + 256 * ((p2 + p3 + (p4 + p5) + (p6 + p7)) + 256 * ((p3 + p4 + (p5 + p6) + p7) + 256 * ((p4 + p5 + (p6 + p7)) + 256 * ((p5 + p6 + p7) + 256 * ((p6 + p7) + 256 * p7)))))) := by
  rw [dv4 _ _ _ _ _ (by omega) (by omega) (by omega) (by omega), sum2, sum2, sum2]
  generalize p4 + p5 + (p6 + p7) + 256 * (p5 + p6 + p7 + 256 * (p6 + p7 + 256 * p7)) = q
  have : p3 + p4 + (p5 + p6) + 256 * q + p7 = p3 + p4 + (p5 + p6) + p7 + 256 * q := by omega
  rw [this]
theorem ltV (p0 p1 p2 p3 p4 p5 p6 p7 : Nat) (h0 : p0 ≤ 8) (h1 : p1 ≤ 8) (h2 : p2 ≤ 8) (h3 : p3 ≤ 8) (h4 : p4 ≤ 8) (h5 : p5 ≤ 8) (h6 : p6 ≤ 8) (h7 : p7 ≤ 8) : p0 + 256 * (p1 + 256 * (p2 + 256 * (p3 + 256 * (p4 + 256 * (p5 + 256 * (p6 + 256 * p7)))))) < 1152921504606846976 := lt8 _ _ _ _ _ _ _ _ (by omega) (by omega) (by omega) (by omega) (by omega) (by omega) (by omega) (by omega)
theorem ltY (p0 p1 p2 p3 p4 p5 p6 p7 : Nat) (h0 : p0 ≤ 8) (h1 : p1 ≤ 8) (h2 : p2 ≤ 8) (h3 : p3 ≤ 8) (h4 : p4 ≤ 8) (h5 : p5 ≤ 8) (h6 : p6 ≤ 8) (h7 : p7 ≤ 8) : (p0 + p1) + 256 * ((p1 + p2) + 256 * ((p2 + p3) + 256 * ((p3 + p4) + 256 * ((p4 + p5) + 256 * ((p5 + p6) + 256 * ((p6 + p7) + 256 * p7)))))) < 1152921504606846976 := lt8 _ _ _ _ _ _ _ _ (by omega) (by omega) (by omega) (by omega) (by omega) (by omega) (by omega) (by omega)
theorem ltZ (p0 p1 p2 p3 p4 p5 p6 p7 : Nat) (h0 : p0 ≤ 8) (h1 : p1 ≤ 8) (h2 : p2 ≤ 8) (h3 : p3 ≤ 8) (h4 : p4 ≤ 8) (h5 : p5 ≤ 8) (h6 : p6 ≤ 8) (h7 : p7 ≤ 8) : (p0 + p1 + (p2 + p3)) + 256 * ((p1 + p2 + (p3 + p4)) + 256 * ((p2 + p3 + (p4 + p5)) + 256 * ((p3 + p4 + (p5 + p6)) + 256 * ((p4 + p5 + (p6 + p7)) + 256 * ((p5 + p6 + p7) + 256 * ((p6 + p7) + 256 * p7)))))) < 1152921504606846976 := lt8 _ _ _ _ _ _ _ _ (by omega) (by omega) (by omega) (by omega) (by omega) (by omega) (by omega) (by omega)
theorem ltT (p0 p1 p2 p3 p4 p5 p6 p7 : Nat) (h0 : p0 ≤ 8) (h1 : p1 ≤ 8) (h2 : p2 ≤ 8) (h3 : p3 ≤ 8) (h4 : p4 ≤ 8) (h5 : p5 ≤ 8) (h6 : p6 ≤ 8) (h7 : p7 ≤ 8) : (p0 + p1 + (p2 + p3) + (p4 + p5 + (p6 + p7))) + 256 * ((p1 + p2 + (p3 + p4) + (p5 + p6 + p7)) + 256 * ((p2 + p3 + (p4 + p5) + (p6 + p7)) + 256 * ((p3 + p4 + (p5 + p6) + p7) + 256 * ((p4 + p5 + (p6 + p7)) + 256 * ((p5 + p6 + p7) + 256 * ((p6 + p7) + 256 * p7)))))) < 1152921504606846976 := lt8 _ _ _ _ _ _ _ _ (by omega) (by omega) (by omega) (by omega) (by omega) (by omega) (by omega) (by omega)
theorem modT (p0 p1 p2 p3 p4 p5 p6 p7 : Nat) (h0 : p0 ≤ 8) (h1 : p1 ≤ 8) (h2 : p2 ≤ 8) (h3 : p3 ≤ 8) (h4 : p4 ≤ 8) (h5 : p5 ≤ 8) (h6 : p6 ≤ 8) (h7 : p7 ≤ 8) : ((p0 + p1 + (p2 + p3) + (p4 + p5 + (p6 + p7))) + 256 * ((p1 + p2 + (p3 + p4) + (p5 + p6 + p7)) + 256 * ((p2 + p3 + (p4 + p5) + (p6 + p7)) + 256 * ((p3 + p4 + (p5 + p6) + p7) + 256 * ((p4 + p5 + (p6 + p7)) + 256 * ((p5 + p6 + p7) + 256 * ((p6 + p7) + 256 * p7))))))) % 128 = p0 + (p1 + (p2 + (p3 + (p4 + (p5 + (p6 + p7)))))) := by
  rw [md1 _ _ (by omega)]
  omega
/-- The last three steps. -/
theorem last_steps (x : Nat) : s123 8 x < 1152921504606846976 ∧ ∃ y z t : Nat, y = s123 8 x + s123 8 x / 256 ∧ z = y + y / 65536 ∧ t = z + z / 4294967296 ∧ y < 1152921504606846976 ∧ z < 1152921504606846976 ∧ t < 1152921504606846976 ∧ t % 128 = (allN x).length := by
  obtain ⟨p0, p1, p2, p3, p4, p5, p6, p7, h0, h1, h2, h3, h4, h5, h6, h7, e, l⟩ := bytes8 x
  rw [l, e]
  exact ⟨ltV p0 p1 p2 p3 p4 p5 p6 p7 h0 h1 h2 h3 h4 h5 h6 h7, _, _, _, (stepY p0 p1 p2 p3 p4 p5 p6 p7 h0 h1 h2 h3 h4 h5 h6 h7).symm, (stepZ p0 p1 p2 p3 p4 p5 p6 p7 h0 h1 h2 h3 h4 h5 h6 h7).symm, (stepT p0 p1 p2 p3 p4 p5 p6 p7 h0 h1 h2 h3 h4 h5 h6 h7).symm,
    ltY p0 p1 p2 p3 p4 p5 p6 p7 h0 h1 h2 h3 h4 h5 h6 h7, ltZ p0 p1 p2 p3 p4 p5 p6 p7 h0 h1 h2 h3 h4 h5 h6 h7, ltT p0 p1 p2 p3 p4 p5 p6 p7 h0 h1 h2 h3 h4 h5 h6 h7, modT p0 p1 p2 p3 p4 p5 p6 p7 h0 h1 h2 h3 h4 h5 h6 h7⟩
end Go.Proofs.Ytmnbpnjakbihdaa
