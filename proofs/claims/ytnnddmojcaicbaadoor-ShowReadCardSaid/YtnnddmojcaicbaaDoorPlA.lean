/- Joined: Plain, Digits. -/
import Derived.WalkKit
import Derived.Lib.ItoaNum
import Derived.Lib.Strings
section
/- Plain facts on numbers of 64 bits: no Go in sight. -/
namespace Go.Proofs.YtnnddmojcaicbaaDoor
open Go.RowKit

theorem and32 (a : Int) : bits .and .i64 a 4294967295 = a % 4294967296 := by
  show IntKind.i64.wrap ((BitVec.ofInt 64 a &&& BitVec.ofInt 64 4294967295).toNat : Int) = _
  have h2 : (BitVec.ofInt 64 4294967295).toNat = 2 ^ 32 - 1 := by decide
  have h1 : (BitVec.ofInt 64 a).toNat = (a % 18446744073709551616).toNat := by
    rw [BitVec.toNat_ofInt]; rfl
  rw [BitVec.toNat_and, h2, h1, Nat.and_two_pow_sub_one_eq_mod, IntKind.wrap_i64]
  omega

/-- A number that int64 holds. -/
def Fits (n : Int) : Prop := -9223372036854775808 ≤ n ∧ n ≤ 9223372036854775807
instance (n : Int) : Decidable (Fits n) := inferInstanceAs (Decidable (_ ∧ _))
theorem fits_of_wf {n : Int} (h : (Lit.int .i64 n).wf = true) : Fits n := by
  simp [Lit.wf, IntKind.min, IntKind.max, IntKind.signed, IntKind.bits] at h
  unfold Fits; omega
theorem wrap_fits (n : Int) : Fits (wrap64 n) := by unfold Fits wrap64; omega
theorem wrap_of_fits {n : Int} (h : Fits n) : wrap64 n = n := IntWalk.wrap64_in n h

theorem ret_int {k : IntKind} {a b : Int} (h : a = b) : Ending.returned (.int k a) = .returned (.int k b) := by rw [h]
theorem ret_bool {p q : Bool} (h : p = q) : Ending.returned (.bool p) = .returned (.bool q) := by rw [h]
theorem ret_pair {k : IntKind} {x y : Int} {p q : Bool} (h : x = y) (g : p = q) : Ending.returned (.tuple #[.int k x, .bool p]) = .returned (.tuple #[.int k y, .bool q]) := by rw [h, g]

/-- What a sum or product answers: itself, if int64 holds it, else 0. -/
def fitV (n : Int) : Int := if Fits n then n else 0
def fitOk (n : Int) : Bool := decide (Fits n)
theorem fitV_fits (n : Int) : Fits (fitV n) := by unfold fitV; split; assumption; unfold Fits; omega
theorem fitV_yes {n : Int} (h : Fits n) : fitV n = n := if_pos h
theorem fitV_no {n : Int} (h : ¬ Fits n) : fitV n = 0 := if_neg h
theorem fitOk_yes {n : Int} (h : Fits n) : fitOk n = true := decide_eq_true h
theorem fitOk_no {n : Int} (h : ¬ Fits n) : fitOk n = false := decide_eq_false h

/-! ### Products -/
theorem natAbs_lt_of_tmod (x b : Int) (hb : b ≠ 0) : (x.tmod b).natAbs < b.natAbs := by
  rw [Int.natAbs_tmod]; exact Nat.mod_lt _ (by omega)
/-- The product went round, and dividing back still gives a: only the least number by -1. -/
theorem mul_back (a b : Int) (ha : Fits a) (hb : Fits b) (hb0 : b ≠ 0) (hn : ¬ Fits (a * b)) (hq : wrap64 ((wrap64 (a * b)).tdiv b) = a) : b = -1 ∧ a = -9223372036854775808 := by
  unfold Fits at ha hb
  have hP := wrap_fits (a * b)
  have hc : ∃ k : Int, wrap64 (a * b) = a * b + k * 18446744073709551616 := by
    refine ⟨-((a * b + 9223372036854775808) / 18446744073709551616), ?_⟩
    unfold wrap64; omega
  obtain ⟨k, hk⟩ := hc
  by_cases h1 : b = -1
  · subst h1
    refine ⟨rfl, ?_⟩
    unfold Fits at hn
    omega
  · exfalso
    have hd : Fits ((wrap64 (a * b)).tdiv b) := by
      have h2 : ((wrap64 (a * b)).tdiv b).natAbs = (wrap64 (a * b)).natAbs / b.natAbs := Int.natAbs_tdiv (wrap64 (a * b)) b
      have h3 : (wrap64 (a * b)).natAbs / b.natAbs ≤ (wrap64 (a * b)).natAbs := Nat.div_le_self _ _
      unfold Fits at hP ⊢
      by_cases h4 : b = 1
      · subst h4; simp only [Int.tdiv_one]; exact hP
      · have h5 : (wrap64 (a * b)).natAbs / b.natAbs ≤ (wrap64 (a * b)).natAbs / 2 := Nat.div_le_div_left (by omega) (by omega)
        omega
    rw [wrap_of_fits hd] at hq
    have h6 := Int.mul_tdiv_add_tmod (wrap64 (a * b)) b
    rw [hq] at h6
    have h7 := natAbs_lt_of_tmod (wrap64 (a * b)) b hb0
    rw [Int.mul_comm b a] at h6
    have h8 : (wrap64 (a * b)).tmod b = k * 18446744073709551616 := by omega
    have h9 : k = 0 := by omega
    subst h9
    simp at hk
    rw [hk] at hP
    exact hn hP
theorem mul_div (a b : Int) (hb0 : b ≠ 0) : (a * b).tdiv b = a := Int.mul_tdiv_cancel a hb0

/-- The tests of Mul: the quotient, the sign. -/
theorem mul_yes (a b : Int) (ha0 : a ≠ 0) (hb0 : b ≠ 0) (ha : Fits a) (hf : Fits (a * b)) : wrap64 ((wrap64 (a * b)).tdiv b) = a ∧ (!decide (wrap64 (a * b) < 0) == !decide (a < 0) == decide (b < 0)) = false := by
  rw [wrap_of_fits hf, mul_div a b hb0, wrap_of_fits ha]
  refine ⟨rfl, ?_⟩
  rcases Int.lt_or_gt_of_ne ha0 with h1 | h1 <;> rcases Int.lt_or_gt_of_ne hb0 with h2 | h2
  · have := Int.mul_pos_of_neg_of_neg h1 h2
    have c : ¬ a * b < 0 := by omega
    simp [h1, h2, c]
  · have c := Int.mul_neg_of_neg_of_pos h1 h2
    have d : ¬ b < 0 := by omega
    simp [h1, d, c]
  · have c := Int.mul_neg_of_pos_of_neg h1 h2
    have d : ¬ a < 0 := by omega
    simp [h2, d, c]
  · have := Int.mul_pos h1 h2
    have c : ¬ a * b < 0 := by omega
    have d : ¬ a < 0 := by omega
    have e : ¬ b < 0 := by omega
    simp [c, d, e]
theorem mul_no (a b : Int) (hb0 : b ≠ 0) (ha : Fits a) (hb : Fits b) (hf : ¬ Fits (a * b)) (hq : wrap64 ((wrap64 (a * b)).tdiv b) = a) : (!decide (wrap64 (a * b) < 0) == !decide (a < 0) == decide (b < 0)) = true := by
  obtain ⟨rfl, rfl⟩ := mul_back a b ha hb hb0 hf hq
  have h : wrap64 (-9223372036854775808 * -1) = -9223372036854775808 := by unfold wrap64; rfl
  rw [h]
  simp
theorem fits_zero : Fits 0 := by unfold Fits; omega
theorem rmul_no (a b : Int) (hb0 : b ≠ 0) (ha : Fits a) (hb : Fits b) (h1 : ¬ (b = -1 ∧ a = -9223372036854775808)) (hq : wrap64 ((wrap64 (a * b)).tdiv b) = a) : Fits (a * b) := by
  by_cases hf : Fits (a * b)
  · exact hf
  · exact absurd (mul_back a b ha hb hb0 hf hq) h1
theorem neg_back (b : Int) (hb : Fits b) (hb0 : b ≠ 0) (h : b ≠ -9223372036854775808) : wrap64 ((wrap64 (-b)).tdiv b) = -1 := by
  unfold Fits at hb
  rw [IntWalk.wrap64_in (-b) (by omega), Int.neg_tdiv, Int.tdiv_self hb0]
  unfold wrap64; rfl
theorem neg_neg_back (a : Int) (ha : Fits a) : wrap64 (-wrap64 (-a)) = a := by
  unfold Fits at ha
  unfold wrap64; omega
theorem not_fits_edge : ¬ Fits (-9223372036854775808 * -1) := by unfold Fits; omega
theorem not_fits_edge' : ¬ Fits (-1 * -9223372036854775808) := by unfold Fits; omega
end Go.Proofs.YtnnddmojcaicbaaDoor
end
section
/- Decimal texts: what is read of one, and that the numeral of what was read is the text. No Go in sight. -/
namespace Go.Proofs.YtnnddmojcaicbaaDoor
open Go.Lib (decDigits itoa)

def isDig (c : UInt8) : Bool := decide (48 ≤ c.toNat ∧ c.toNat ≤ 57)
def valOf (l : List UInt8) : Nat := l.foldl (fun n c => 10 * n + (c.toNat - 48)) 0
/-- What is read of a text's bytes so far. -/
def step (o : Option Nat) (c : UInt8) : Option Nat :=
  match o with
  | none => none
  | some n => if isDig c = true ∧ 10 * n + (c.toNat - 48) ≤ 1000000000000000 then some (10 * n + (c.toNat - 48)) else none
def readN (l : List UInt8) : Option Nat := l.foldl step (some 0)
def leads (l : List UInt8) : Bool := l.isEmpty || (decide (1 < l.length) && (l.headD 0 == 48))
def parseO (l : List UInt8) : Option Nat := if leads l then none else readN l

theorem readN_nil : readN [] = some 0 := rfl
theorem readN_snoc (l : List UInt8) (c : UInt8) : readN (l ++ [c]) = step (readN l) c := by simp [readN, List.foldl_append]
theorem foldl_none (l : List UInt8) : l.foldl step none = none := by
  induction l with
  | nil => rfl
  | cons c r ih => simpa [List.foldl, step] using ih
theorem readN_append_none (l r : List UInt8) (h : readN l = none) : readN (l ++ r) = none := by
  unfold readN at h ⊢
  rw [List.foldl_append, h, foldl_none]
theorem valOf_nil : valOf [] = 0 := rfl
theorem valOf_snoc (l : List UInt8) (c : UInt8) : valOf (l ++ [c]) = 10 * valOf l + (c.toNat - 48) := by simp [valOf, List.foldl_append]

/-- Reverse induction. -/
theorem snoc_ind {P : List UInt8 → Prop} (h0 : P []) (h1 : ∀ l c, P l → P (l ++ [c])) (l : List UInt8) : P l := by
  have : ∀ n, ∀ l : List UInt8, l.length = n → P l := by
    intro n
    induction n with
    | zero => intro l hl; obtain rfl := List.eq_nil_of_length_eq_zero hl; exact h0
    | succ n ih =>
      intro l hl
      have hne : l ≠ [] := by intro h; subst h; simp at hl
      rw [← List.dropLast_concat_getLast hne]
      exact h1 _ _ (ih _ (by simp [hl]))
  exact this _ l rfl

theorem readN_iff (l : List UInt8) (n : Nat) : readN l = some n ↔ l.all isDig = true ∧ valOf l ≤ 1000000000000000 ∧ n = valOf l := by
  induction l using snoc_ind generalizing n with
  | h0 => simp [readN_nil, valOf_nil]; exact eq_comm
  | h1 l c ih =>
    rw [readN_snoc, valOf_snoc, List.all_append]
    cases h : readN l with
    | none =>
      simp only [step]
      constructor
      · intro h; cases h
      · rintro ⟨h1, h2, h3⟩
        simp at h1
        have := (ih (valOf l)).2 ⟨by simpa using h1.1, by omega, rfl⟩
        rw [h] at this; cases this
    | some m =>
      obtain ⟨g1, g2, g3⟩ := (ih m).1 h
      simp only [step]
      subst g3
      split
      · rename_i hc
        simp only [Option.some.injEq, g1, Bool.true_and]
        simp [hc.1, hc.2]
        exact eq_comm
      · rename_i hc
        constructor
        · intro h; cases h
        · rintro ⟨h1, h2, h3⟩
          simp at h1
          exact absurd ⟨h1.2, h2⟩ hc

theorem ofNat_dig {c : UInt8} (h : isDig c = true) : UInt8.ofNat (48 + (c.toNat - 48)) = c := by
  simp [isDig] at h
  rw [show 48 + (c.toNat - 48) = c.toNat by omega]
  simp

theorem valOf_pos (l : List UInt8) (h : l.all isDig = true) (hne : l ≠ []) (hh : l.headD 0 ≠ 48) : 1 ≤ valOf l := by
  induction l using snoc_ind with
  | h0 => exact absurd rfl hne
  | h1 l c ih =>
    rw [valOf_snoc]
    rw [List.all_append] at h
    simp at h
    by_cases hl : l = []
    · subst hl
      simp at hh
      have h2 : isDig c = true := h.2
      simp [isDig] at h2
      have h3 : c.toNat ≠ 48 := by intro h; apply hh; apply UInt8.toNat_inj.1; simpa using h
      omega
    · have := ih (by simpa using h.1) hl (by cases l with | nil => exact absurd rfl hl | cons a r => simpa using hh)
      omega

/-- A numeral without noughts ahead is what its number is told as. -/
theorem dec_valOf (l : List UInt8) (h : l.all isDig = true) (hl : leads l = false) : decDigits (valOf l) = l := by
  induction l using snoc_ind with
  | h0 => simp [leads] at hl
  | h1 l c ih =>
    rw [valOf_snoc]
    rw [List.all_append] at h
    simp only [Bool.and_eq_true, List.all_cons, List.all_nil, Bool.and_true] at h
    obtain ⟨h1, h2⟩ := h
    have h3 := ofNat_dig h2
    simp [isDig] at h2
    by_cases hn : l = []
    · subst hn
      rw [decDigits, dif_pos (by rw [valOf_nil]; omega)]
      rw [valOf_nil]
      simpa using h3
    · have hh : l.headD 0 ≠ 48 := by
        cases l with
        | nil => exact absurd rfl hn
        | cons a r => simp [leads] at hl; simpa using hl
      have hp := valOf_pos l h1 hn hh
      have hl' : leads l = false := by
        cases l with
        | nil => exact absurd rfl hn
        | cons a r => simp at hh; simp [leads, hh]
      rw [decDigits, dif_neg (by omega)]
      rw [show (10 * valOf l + (c.toNat - 48)) / 10 = valOf l by omega, show (10 * valOf l + (c.toNat - 48)) % 10 = c.toNat - 48 by omega, ih h1 hl', h3]

theorem isDig_ofNat (d : Nat) (h : d < 10) : isDig (UInt8.ofNat (48 + d)) = true := by
  simp [isDig]; omega
theorem dec_all (u : Nat) : (decDigits u).all isDig = true := by
  induction u using Nat.strongRecOn with
  | _ u ih =>
    rw [decDigits]
    split
    · rename_i h; simp only [List.all_cons, List.all_nil, Bool.and_true]; exact isDig_ofNat u h
    · rw [List.all_append, ih (u / 10) (by omega)]; simp only [List.all_cons, List.all_nil, Bool.and_true, Bool.true_and]; exact isDig_ofNat (u % 10) (by omega)
theorem dec_ne (u : Nat) : decDigits u ≠ [] := by
  rw [decDigits]; split <;> simp
theorem dec_val (u : Nat) : valOf (decDigits u) = u := by
  induction u using Nat.strongRecOn with
  | _ u ih =>
    rw [decDigits]
    split
    · rename_i h
      have : valOf [UInt8.ofNat (48 + u)] = 10 * valOf [] + ((UInt8.ofNat (48 + u)).toNat - 48) := valOf_snoc [] _
      rw [this, valOf_nil]
      simp; omega
    · rw [valOf_snoc, ih (u / 10) (by omega)]; simp; omega
theorem dec_leads (u : Nat) : leads (decDigits u) = false := by
  induction u using Nat.strongRecOn with
  | _ u ih =>
    by_cases h : u < 10
    · rw [decDigits, dif_pos h]; simp [leads]
    · rw [decDigits, dif_neg h]
      have h1 := ih (u / 10) (by omega)
      have h2 := dec_ne (u / 10)
      cases hd : decDigits (u / 10) with
      | nil => exact absurd hd h2
      | cons a r =>
        rw [hd] at h1
        simp [leads] at h1 ⊢
        cases r with
        | nil =>
          -- one digit ahead: it is u / 10, which is not 0
          by_cases h3 : u / 10 < 10
          · rw [decDigits, dif_pos h3] at hd
            simp at hd
            rw [← hd]
            intro h4
            have h5 := congrArg UInt8.toNat h4
            simp at h5
            omega
          · rw [decDigits, dif_neg h3] at hd
            have := dec_ne (u / 10 / 10)
            cases hd2 : decDigits (u / 10 / 10) with
            | nil => exact absurd hd2 this
            | cons a2 r2 => rw [hd2] at hd; simp at hd
        | cons b r => simpa using h1

/-- The reference's reading: all digits, not too great, and told again it is the text. -/
theorem parse_ref (l : List UInt8) : parseO l = if l.all isDig = true ∧ valOf l ≤ 1000000000000000 ∧ decDigits (valOf l) = l then some (valOf l) else none := by
  unfold parseO
  by_cases h : l.all isDig = true ∧ valOf l ≤ 1000000000000000 ∧ decDigits (valOf l) = l
  · rw [if_pos h]
    obtain ⟨h1, h2, h3⟩ := h
    have h4 : leads l = false := by rw [← h3]; exact dec_leads _
    rw [h4]
    simpa using (readN_iff l (valOf l)).2 ⟨h1, h2, rfl⟩
  · rw [if_neg h]
    cases h4 : leads l with
    | true => rfl
    | false =>
      cases h5 : readN l with
      | none => simp
      | some m =>
        obtain ⟨g1, g2, g3⟩ := (readN_iff l m).1 h5
        exact absurd ⟨g1, g2, dec_valOf l g1 h4⟩ h

theorem parse_bad (l : List UInt8) (c : UInt8) (h : c ∈ l) (hc : isDig c = false) : parseO l = none := by
  rw [parse_ref, if_neg]
  rintro ⟨h1, _⟩
  have := List.all_eq_true.1 h1 c h
  rw [hc] at this; cases this
theorem parse_great (l : List UInt8) (h : ¬ valOf l ≤ 1000000000000000) : parseO l = none := by
  rw [parse_ref, if_neg]; rintro ⟨_, h2, _⟩; exact h h2
theorem parse_other (l : List UInt8) (h : ¬ decDigits (valOf l) = l) : parseO l = none := by
  rw [parse_ref, if_neg]; rintro ⟨_, _, h2⟩; exact h h2
theorem parse_yes (l : List UInt8) (h1 : l.all isDig = true) (h2 : valOf l ≤ 1000000000000000) (h3 : decDigits (valOf l) = l) : parseO l = some (valOf l) := by
  rw [parse_ref, if_pos ⟨h1, h2, h3⟩]
theorem take_snoc (l : List UInt8) (k : Nat) (h : k < l.length) : l.take (k + 1) = l.take k ++ [l[k]] := by
  rw [List.take_succ_eq_append_getElem h]
theorem nDigits_le (u : Nat) (k : Nat) (h : u < 10 ^ k) (hk : 1 ≤ k) : (decDigits u).length ≤ k := by
  induction k generalizing u with
  | zero => omega
  | succ k ih =>
    by_cases h9 : u < 10
    · rw [decDigits, dif_pos h9]; simp
    · rw [decDigits, dif_neg h9]
      have hk1 : 1 ≤ k := by
        cases k with
        | zero => simp at h; omega
        | succ k => omega
      have := ih (u / 10) (by rw [Nat.pow_succ] at h; omega) hk1
      simp; omega
/-- A text of more than sixteen bytes is none. -/
theorem parse_long (l : List UInt8) (h : 16 < l.length) : parseO l = none := by
  rw [parse_ref, if_neg]
  rintro ⟨_, h2, h3⟩
  have := nDigits_le (valOf l) 16 (by omega) (by omega)
  rw [h3] at this
  omega
theorem valOf_lt (l : List UInt8) (h : l.all isDig = true) : valOf l < 10 ^ l.length := by
  induction l using snoc_ind with
  | h0 => simp [valOf_nil]
  | h1 l c ih =>
    rw [List.all_append] at h
    simp only [Bool.and_eq_true, List.all_cons, List.all_nil, Bool.and_true] at h
    have := ih h.1
    have h2 := h.2
    simp [isDig] at h2
    rw [valOf_snoc]
    simp only [List.length_append, List.length_cons, List.length_nil]
    rw [Nat.pow_succ]
    omega
end Go.Proofs.YtnnddmojcaicbaaDoor
end
