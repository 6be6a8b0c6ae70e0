/- A text's words, on lists of bytes. No Go in sight. -/
import Derived.Lib.IndexAny
import Derived.Lib.Strings
namespace Go.Proofs.Ytoafmbjdchkahaa

/-- May it stand in a text? -/
def standB (b : UInt8) : Bool := b == 10 || (decide (32 ≤ b.toNat) && decide (b.toNat ≤ 126))
def badB (b : UInt8) : Bool := !standB b
def blankB (b : UInt8) : Bool := b == 32 || b == 10
def lineB (b : UInt8) : Bool := b == 10
def sepB (b : UInt8) : Bool := b == 32 || b == 10 || b == 35
/-- How many bytes stand ahead of the first one of these. -/
def toN (p : UInt8 → Bool) : List UInt8 → Nat
  | [] => 0
  | b :: r => if p b then 0 else toN p r + 1
theorem toN_le (p : UInt8 → Bool) : ∀ l, toN p l ≤ l.length
  | [] => Nat.le_refl _
  | b :: r => by
    have := toN_le p r
    unfold toN
    split <;> simp <;> omega
theorem toN_congr {p q : UInt8 → Bool} (h : ∀ b, p b = q b) : ∀ l, toN p l = toN q l
  | [] => rfl
  | b :: r => by unfold toN; rw [h b, toN_congr h r]
theorem toN_all {p : UInt8 → Bool} : ∀ {l : List UInt8}, toN p l = l.length → ∀ b ∈ l, p b = false
  | [], _, b, hb => by simp at hb
  | c :: r, h, b, hb => by
    have hle := toN_le p r
    cases hc : p c with
    | true => simp [toN, hc] at h
    | false =>
      simp [toN, hc] at h
      rcases List.mem_cons.1 hb with rfl | hb
      · exact hc
      · exact toN_all h b hb
theorem toN_none {p : UInt8 → Bool} : ∀ {l : List UInt8}, (∀ b ∈ l, p b = false) → toN p l = l.length
  | [], _ => rfl
  | c :: r, h => by
    have hc := h c (by simp)
    simp [toN, hc]
    exact toN_none fun b hb => h b (by simp [hb])
theorem toN_take {p : UInt8 → Bool} : ∀ (l : List UInt8), ∀ b ∈ l.take (toN p l), p b = false
  | [], b, hb => by simp at hb
  | c :: r, b, hb => by
    cases hc : p c with
    | true => simp [toN, hc] at hb
    | false =>
      simp [toN, hc] at hb
      rcases hb with rfl | hb
      · exact hc
      · exact toN_take r b hb
theorem toN_append {p : UInt8 → Bool} : ∀ {l : List UInt8} (r : List UInt8), (∀ b ∈ l, p b = false) → toN p (l ++ r) = l.length + toN p r
  | [], r, _ => by simp
  | c :: l, r, h => by
    have hc := h c (by simp)
    simp [toN, hc]
    rw [toN_append r fun b hb => h b (by simp [hb])]
    omega

/-- A text's words, with their places; i: where the text begins. -/
def cutL (l : List UInt8) (i : Nat) : List (List UInt8 × Nat) :=
  match l with
  | [] => []
  | b :: r =>
    if blankB b then cutL r (i + 1)
    else if b == 35 then cutL (r.drop (toN lineB r)) (i + 1 + toN lineB r)
    else (b :: r.take (toN sepB r), i) :: cutL (r.drop (toN sepB r)) (i + 1 + toN sepB r)
termination_by l.length
decreasing_by all_goals simp; try omega

theorem cutL_nil (i : Nat) : cutL [] i = [] := by rw [cutL]
theorem cutL_cons (b : UInt8) (r : List UInt8) (i : Nat) : cutL (b :: r) i =
    if blankB b then cutL r (i + 1)
    else if b == 35 then cutL (r.drop (toN lineB r)) (i + 1 + toN lineB r)
    else (b :: r.take (toN sepB r), i) :: cutL (r.drop (toN sepB r)) (i + 1 + toN sepB r) := by rw [cutL]

/-! ### At a place of a text -/
/-- From a place on the first one of these; the text's length, if there is none. -/
def aheadN (p : UInt8 → Bool) (s : List UInt8) (k : Nat) : Nat := k + toN p (s.drop k)
theorem drop_at (s : List UInt8) (k : Nat) (h : k < s.length) : s.drop k = s[k] :: s.drop (k + 1) := by rw [List.drop_eq_getElem_cons h]
theorem aheadN_le (p : UInt8 → Bool) (s : List UInt8) (k : Nat) (h : k ≤ s.length) : aheadN p s k ≤ s.length := by
  have := toN_le p (s.drop k)
  unfold aheadN
  rw [List.length_drop] at this
  omega
theorem aheadN_ge (p : UInt8 → Bool) (s : List UInt8) (k : Nat) : k ≤ aheadN p s k := by unfold aheadN; omega
theorem aheadN_on (p : UInt8 → Bool) (s : List UInt8) (k : Nat) (h : k < s.length) (hp : p s[k] = false) : aheadN p s k = aheadN p s (k + 1) := by
  unfold aheadN
  rw [drop_at s k h]
  simp [toN, hp]
  omega
theorem aheadN_at (p : UInt8 → Bool) (s : List UInt8) (k : Nat) (h : k < s.length) (hp : p s[k] = true) : aheadN p s k = k := by
  unfold aheadN
  rw [drop_at s k h]
  simp [toN, hp]
theorem aheadN_end (p : UInt8 → Bool) (s : List UInt8) (k : Nat) (h : k = s.length) : aheadN p s k = k := by
  subst h
  unfold aheadN
  simp [toN]
theorem aheadN_gt (p : UInt8 → Bool) (s : List UInt8) (k : Nat) (h : k < s.length) (hp : p s[k] = false) : k < aheadN p s k := by
  rw [aheadN_on p s k h hp]
  exact aheadN_ge p s (k + 1)
theorem aheadN_zero (p : UInt8 → Bool) (s : List UInt8) : aheadN p s 0 = toN p s := by simp [aheadN]

theorem cut_end (s : List UInt8) (k : Nat) (h : s.length ≤ k) : cutL (s.drop k) k = [] := by
  rw [List.drop_of_length_le h, cutL_nil]
theorem cut_blank (s : List UInt8) (k : Nat) (h : k < s.length) (hb : blankB s[k] = true) : cutL (s.drop k) k = cutL (s.drop (k + 1)) (k + 1) := by
  rw [drop_at s k h, cutL_cons, if_pos hb]
theorem cut_line (s : List UInt8) (k : Nat) (h : k < s.length) (hb : s[k] = 35) : cutL (s.drop k) k = cutL (s.drop (aheadN lineB s k)) (aheadN lineB s k) := by
  rw [aheadN_on lineB s k h (by rw [hb]; rfl)]
  conv => lhs; rw [drop_at s k h, cutL_cons, if_neg (by rw [hb]; decide), if_pos (by rw [hb]; rfl)]
  rw [List.drop_drop]
  rfl
theorem cut_word (s : List UInt8) (k : Nat) (h : k < s.length) (hb : sepB s[k] = false) :
    cutL (s.drop k) k = ((s.drop k).take (aheadN sepB s k - k), k) :: cutL (s.drop (aheadN sepB s k)) (aheadN sepB s k) := by
  have hb' : blankB s[k] = false ∧ (s[k] == 35) = false := by
    simp [sepB] at hb
    simp [blankB, hb]
  have hg := aheadN_ge sepB s (k + 1)
  rw [aheadN_on sepB s k h hb]
  conv => lhs; rw [drop_at s k h, cutL_cons, if_neg (by simp [hb'.1]), if_neg (by simp [hb'.2])]
  rw [List.drop_drop]
  congr 2
  rw [drop_at s k h]
  have : aheadN sepB s (k + 1) - k = toN sepB (s.drop (k + 1)) + 1 := by unfold aheadN; omega
  rw [this, List.take_succ_cons]

/-! ### What the library's search tells -/
theorem indexAny_toN (chars : List UInt8) : ∀ l : List UInt8, Lib.indexAny l chars = if toN (fun b => chars.contains b) l < l.length then (toN (fun b => chars.contains b) l : Int) else -1
  | [] => by simp [Lib.indexAny]
  | b :: r => by
    have ih := indexAny_toN chars r
    rw [Lib.indexAny]
    cases hc : chars.contains b with
    | true => simp only [toN, hc, if_true]; simp
    | false =>
      simp only [toN, hc, Bool.false_eq_true, if_false, ih, List.length_cons]
      generalize toN (fun b => chars.contains b) r = q
      by_cases h : q < r.length
      · have h' : ¬ ((q : Int) == -1) = true := by simp
        simp only [if_pos h, if_pos (show q + 1 < r.length + 1 by omega), if_neg h']
        simp
      · simp only [if_neg h, if_neg (show ¬ q + 1 < r.length + 1 by omega)]
        rfl
theorem contains_line (b : UInt8) : ([10] : List UInt8).contains b = lineB b := by simp [lineB]; rfl
theorem contains_sep (b : UInt8) : ([32, 10, 35] : List UInt8).contains b = sepB b := by simp [sepB, Bool.or_assoc]; rfl

/-! ### What is true of any text's words -/
theorem cutL_mem : ∀ (n : Nat) (l : List UInt8) (i : Nat), l.length ≤ n → ∀ t a, (t, a) ∈ cutL l i →
    t ≠ [] ∧ (∀ b ∈ t, sepB b = false) ∧ i ≤ a ∧ a + t.length ≤ i + l.length ∧ (l.drop (a - i)).take t.length = t
  | 0, l, i, hn, t, a, h => by
    obtain rfl := List.eq_nil_of_length_eq_zero (l := l) (by omega)
    rw [cutL_nil] at h
    simp at h
  | n + 1, [], i, hn, t, a, h => by
    rw [cutL_nil] at h
    simp at h
  | n + 1, b :: r, i, hn, t, a, h => by
    simp only [List.length_cons] at hn
    rw [cutL_cons] at h
    split at h
    · obtain ⟨h1, h2, h3, h4, h5⟩ := cutL_mem n r (i + 1) (by omega) t a h
      refine ⟨h1, h2, by omega, by simp; omega, ?_⟩
      have : a - i = (a - (i + 1)) + 1 := by omega
      rw [this, List.drop_succ_cons]
      exact h5
    · split at h
      · have hle := toN_le lineB r
        obtain ⟨h1, h2, h3, h4, h5⟩ := cutL_mem n _ _ (by simp; omega) t a h
        rw [List.length_drop] at h4
        refine ⟨h1, h2, by omega, by simp; omega, ?_⟩
        rw [List.drop_drop] at h5
        have : a - i = (toN lineB r + (a - (i + 1 + toN lineB r))) + 1 := by omega
        rw [this, List.drop_succ_cons]
        exact h5
      · rename_i c1 c2
        have hle := toN_le sepB r
        rcases List.mem_cons.1 h with h | h
        · injection h with e1 e2
          subst e1 e2
          have hlen : (r.take (toN sepB r)).length = toN sepB r := by rw [List.length_take]; omega
          refine ⟨by simp, ?_, Nat.le_refl _, by simp; omega, ?_⟩
          · intro x hx
            rcases List.mem_cons.1 hx with rfl | hx
            · simp [blankB] at c1
              simp at c2
              simp [sepB, c1, c2]
            · exact toN_take r x hx
          · rw [Nat.sub_self, List.drop_zero, List.length_cons, hlen, List.take_succ_cons]
        · obtain ⟨h1, h2, h3, h4, h5⟩ := cutL_mem n _ _ (by simp; omega) t a h
          rw [List.length_drop] at h4
          refine ⟨h1, h2, by omega, by simp; omega, ?_⟩
          rw [List.drop_drop] at h5
          have : a - i = (toN sepB r + (a - (i + 1 + toN sepB r))) + 1 := by omega
          rw [this, List.drop_succ_cons]
          exact h5
theorem cutL_length : ∀ (n : Nat) (l : List UInt8) (i : Nat), l.length ≤ n → (cutL l i).length + ((cutL l i).map fun x => x.1.length).sum ≤ 2 * l.length
  | 0, l, i, hn => by
    obtain rfl := List.eq_nil_of_length_eq_zero (l := l) (by omega)
    rw [cutL_nil]
    simp
  | n + 1, [], i, hn => by
    rw [cutL_nil]
    simp
  | n + 1, b :: r, i, hn => by
    simp only [List.length_cons] at hn ⊢
    rw [cutL_cons]
    split
    · have := cutL_length n r (i + 1) (by omega)
      omega
    · split
      · have := cutL_length n (r.drop (toN lineB r)) (i + 1 + toN lineB r) (by simp; omega)
        rw [List.length_drop] at this
        omega
      · have hle := toN_le sepB r
        have := cutL_length n (r.drop (toN sepB r)) (i + 1 + toN sepB r) (by simp; omega)
        rw [List.length_drop] at this
        have hlen : (r.take (toN sepB r)).length = toN sepB r := by rw [List.length_take]; omega
        simp only [List.length_cons, List.map_cons, List.sum_cons, hlen]
        omega
/-- A word, with what parts it from what comes behind. -/
theorem cut_piece (w g rest : List UInt8) (i : Nat) (hw : w ≠ []) (hs : ∀ b ∈ w, sepB b = false) (hg : ∃ c r, g = c :: r ∧ sepB c = true) :
    cutL (w ++ (g ++ rest)) i = (w, i) :: cutL (g ++ rest) (i + w.length) := by
  obtain ⟨c, r, rfl, hc⟩ := hg
  match w, hw with
  | b :: v, _ =>
    have hb := hs b (by simp)
    have hb' : blankB b = false ∧ (b == 35) = false := by
      simp [sepB] at hb
      simp [blankB, hb]
    have hv : ∀ x ∈ v, sepB x = false := fun x hx => hs x (by simp [hx])
    have hn : toN sepB (v ++ (c :: r ++ rest)) = v.length := by
      rw [toN_append _ hv]
      simp [toN, hc]
    rw [List.cons_append, cutL_cons, if_neg (by simp [hb'.1]), if_neg (by simp [hb'.2]), hn]
    rw [List.take_left, List.drop_left]
    congr 2
    simp
    omega
end Go.Proofs.Ytoafmbjdchkahaa
