/- Joined: Words, WRow, Stands, Cut, Split. -/
import Derived.Lib.IndexAny
import Derived.Lib.Strings
import Derived.Test.YtnnddmojcaicbaaDoorRows
import Derived.Test.YtnnddmojcaicbaaDoorMod
import Derived.Test.YtnnddmojcaicbaaDoorShelf
import Derived.Test.YtnnddmojcaicbaaDoorPlA
import Derived.WalkLawsBesides
import Derived.Lib.Hide
import Derived.Test.YtnnddmojcaicbaaDoorPAppend
import Derived.OwnWalk
section
/- A text's words, on lists of bytes. No Go in sight. -/
namespace Go.Proofs.YtnnddmojcaicbaaDoor

/-- May it stand in a text? -/
def standB (b : UInt8) : Bool := b == 10 || (decide (32 ≤ b.toNat) && decide (b.toNat ≤ 126))
def badB (b : UInt8) : Bool := !standB b
def blankB (b : UInt8) : Bool := b == 32 || b == 10
def lineB (b : UInt8) : Bool := b == 10
def sepB (b : UInt8) : Bool := b == 32 || b == 10 || b == 35
/-- How many bytes stand ahead of the first one of these. -/
def toN (p : UInt8 → Bool) : List UInt8 → Nat
  | [] => 0
  | b :: r => if p b then 0 else toN p r + 1
theorem toN_le (p : UInt8 → Bool) : ∀ l, toN p l ≤ l.length
  | [] => Nat.le_refl _
  | b :: r => by
    have := toN_le p r
    unfold toN
    split <;> simp <;> omega
theorem toN_congr {p q : UInt8 → Bool} (h : ∀ b, p b = q b) : ∀ l, toN p l = toN q l
  | [] => rfl
  | b :: r => by unfold toN; rw [h b, toN_congr h r]
theorem toN_all {p : UInt8 → Bool} : ∀ {l : List UInt8}, toN p l = l.length → ∀ b ∈ l, p b = false
  | [], _, b, hb => by simp at hb
  | c :: r, h, b, hb => by
    have hle := toN_le p r
    cases hc : p c with
    | true => simp [toN, hc] at h
    | false =>
      simp [toN, hc] at h
      rcases List.mem_cons.1 hb with rfl | hb
      · exact hc
      · exact toN_all h b hb
theorem toN_none {p : UInt8 → Bool} : ∀ {l : List UInt8}, (∀ b ∈ l, p b = false) → toN p l = l.length
  | [], _ => rfl
  | c :: r, h => by
    have hc := h c (by simp)
    simp [toN, hc]
    exact toN_none fun b hb => h b (by simp [hb])
theorem toN_take {p : UInt8 → Bool} : ∀ (l : List UInt8), ∀ b ∈ l.take (toN p l), p b = false
  | [], b, hb => by simp at hb
  | c :: r, b, hb => by
    cases hc : p c with
    | true => simp [toN, hc] at hb
    | false =>
      simp [toN, hc] at hb
      rcases hb with rfl | hb
      · exact hc
      · exact toN_take r b hb
theorem toN_append {p : UInt8 → Bool} : ∀ {l : List UInt8} (r : List UInt8), (∀ b ∈ l, p b = false) → toN p (l ++ r) = l.length + toN p r
  | [], r, _ => by simp
  | c :: l, r, h => by
    have hc := h c (by simp)
    simp [toN, hc]
    rw [toN_append r fun b hb => h b (by simp [hb])]
    omega

/-- A text's words, with their places; i: where the text begins. -/
def cutL (l : List UInt8) (i : Nat) : List (List UInt8 × Nat) :=
  match l with
  | [] => []
  | b :: r =>
    if blankB b then cutL r (i + 1)
    else if b == 35 then cutL (r.drop (toN lineB r)) (i + 1 + toN lineB r)
    else (b :: r.take (toN sepB r), i) :: cutL (r.drop (toN sepB r)) (i + 1 + toN sepB r)
termination_by l.length
decreasing_by all_goals simp; try omega

theorem cutL_nil (i : Nat) : cutL [] i = [] := by rw [cutL]
theorem cutL_cons (b : UInt8) (r : List UInt8) (i : Nat) : cutL (b :: r) i =
    if blankB b then cutL r (i + 1)
    else if b == 35 then cutL (r.drop (toN lineB r)) (i + 1 + toN lineB r)
    else (b :: r.take (toN sepB r), i) :: cutL (r.drop (toN sepB r)) (i + 1 + toN sepB r) := by rw [cutL]

/-! ### At a place of a text -/
/-- From a place on the first one of these; the text's length, if there is none. -/
def aheadN (p : UInt8 → Bool) (s : List UInt8) (k : Nat) : Nat := k + toN p (s.drop k)
theorem drop_at (s : List UInt8) (k : Nat) (h : k < s.length) : s.drop k = s[k] :: s.drop (k + 1) := by rw [List.drop_eq_getElem_cons h]
theorem aheadN_le (p : UInt8 → Bool) (s : List UInt8) (k : Nat) (h : k ≤ s.length) : aheadN p s k ≤ s.length := by
  have := toN_le p (s.drop k)
  unfold aheadN
  rw [List.length_drop] at this
  omega
theorem aheadN_ge (p : UInt8 → Bool) (s : List UInt8) (k : Nat) : k ≤ aheadN p s k := by unfold aheadN; omega
theorem aheadN_on (p : UInt8 → Bool) (s : List UInt8) (k : Nat) (h : k < s.length) (hp : p s[k] = false) : aheadN p s k = aheadN p s (k + 1) := by
  unfold aheadN
  rw [drop_at s k h]
  simp [toN, hp]
  omega
theorem aheadN_at (p : UInt8 → Bool) (s : List UInt8) (k : Nat) (h : k < s.length) (hp : p s[k] = true) : aheadN p s k = k := by
  unfold aheadN
  rw [drop_at s k h]
  simp [toN, hp]
theorem aheadN_end (p : UInt8 → Bool) (s : List UInt8) (k : Nat) (h : k = s.length) : aheadN p s k = k := by
  subst h
  unfold aheadN
  simp [toN]
theorem aheadN_gt (p : UInt8 → Bool) (s : List UInt8) (k : Nat) (h : k < s.length) (hp : p s[k] = false) : k < aheadN p s k := by
  rw [aheadN_on p s k h hp]
  exact aheadN_ge p s (k + 1)
theorem aheadN_zero (p : UInt8 → Bool) (s : List UInt8) : aheadN p s 0 = toN p s := by simp [aheadN]

theorem cut_end (s : List UInt8) (k : Nat) (h : s.length ≤ k) : cutL (s.drop k) k = [] := by
  rw [List.drop_of_length_le h, cutL_nil]
theorem cut_blank (s : List UInt8) (k : Nat) (h : k < s.length) (hb : blankB s[k] = true) : cutL (s.drop k) k = cutL (s.drop (k + 1)) (k + 1) := by
  rw [drop_at s k h, cutL_cons, if_pos hb]
theorem cut_line (s : List UInt8) (k : Nat) (h : k < s.length) (hb : s[k] = 35) : cutL (s.drop k) k = cutL (s.drop (aheadN lineB s k)) (aheadN lineB s k) := by
  rw [aheadN_on lineB s k h (by rw [hb]; rfl)]
  conv => lhs; rw [drop_at s k h, cutL_cons, if_neg (by rw [hb]; decide), if_pos (by rw [hb]; rfl)]
  rw [List.drop_drop]
  rfl
theorem cut_word (s : List UInt8) (k : Nat) (h : k < s.length) (hb : sepB s[k] = false) :
    cutL (s.drop k) k = ((s.drop k).take (aheadN sepB s k - k), k) :: cutL (s.drop (aheadN sepB s k)) (aheadN sepB s k) := by
  have hb' : blankB s[k] = false ∧ (s[k] == 35) = false := by
    simp [sepB] at hb
    simp [blankB, hb]
  have hg := aheadN_ge sepB s (k + 1)
  rw [aheadN_on sepB s k h hb]
  conv => lhs; rw [drop_at s k h, cutL_cons, if_neg (by simp [hb'.1]), if_neg (by simp [hb'.2])]
  rw [List.drop_drop]
  congr 2
  rw [drop_at s k h]
  have : aheadN sepB s (k + 1) - k = toN sepB (s.drop (k + 1)) + 1 := by unfold aheadN; omega
  rw [this, List.take_succ_cons]

/-! ### What the library's search tells -/
theorem indexAny_toN (chars : List UInt8) : ∀ l : List UInt8, Lib.indexAny l chars = if toN (fun b => chars.contains b) l < l.length then (toN (fun b => chars.contains b) l : Int) else -1
  | [] => by simp [Lib.indexAny]
  | b :: r => by
    have ih := indexAny_toN chars r
    rw [Lib.indexAny]
    cases hc : chars.contains b with
    | true => simp only [toN, hc, if_true]; simp
    | false =>
      simp only [toN, hc, Bool.false_eq_true, if_false, ih, List.length_cons]
      generalize toN (fun b => chars.contains b) r = q
      by_cases h : q < r.length
      · have h' : ¬ ((q : Int) == -1) = true := by simp
        simp only [if_pos h, if_pos (show q + 1 < r.length + 1 by omega), if_neg h']
        simp
      · simp only [if_neg h, if_neg (show ¬ q + 1 < r.length + 1 by omega)]
        rfl
theorem contains_line (b : UInt8) : ([10] : List UInt8).contains b = lineB b := by simp [lineB]; rfl
theorem contains_sep (b : UInt8) : ([32, 10, 35] : List UInt8).contains b = sepB b := by simp [sepB, Bool.or_assoc]; rfl

/-! ### What is true of any text's words -/
theorem cutL_mem : ∀ (n : Nat) (l : List UInt8) (i : Nat), l.length ≤ n → ∀ t a, (t, a) ∈ cutL l i →
    t ≠ [] ∧ (∀ b ∈ t, sepB b = false) ∧ i ≤ a ∧ a + t.length ≤ i + l.length ∧ (l.drop (a - i)).take t.length = t
  | 0, l, i, hn, t, a, h => by
    obtain rfl := List.eq_nil_of_length_eq_zero (l := l) (by omega)
    rw [cutL_nil] at h
    simp at h
  | n + 1, [], i, hn, t, a, h => by
    rw [cutL_nil] at h
    simp at h
  | n + 1, b :: r, i, hn, t, a, h => by
    simp only [List.length_cons] at hn
    rw [cutL_cons] at h
    split at h
    · obtain ⟨h1, h2, h3, h4, h5⟩ := cutL_mem n r (i + 1) (by omega) t a h
      refine ⟨h1, h2, by omega, by simp; omega, ?_⟩
      have : a - i = (a - (i + 1)) + 1 := by omega
      rw [this, List.drop_succ_cons]
      exact h5
    · split at h
      · have hle := toN_le lineB r
        obtain ⟨h1, h2, h3, h4, h5⟩ := cutL_mem n _ _ (by simp; omega) t a h
        rw [List.length_drop] at h4
        refine ⟨h1, h2, by omega, by simp; omega, ?_⟩
        rw [List.drop_drop] at h5
        have : a - i = (toN lineB r + (a - (i + 1 + toN lineB r))) + 1 := by omega
        rw [this, List.drop_succ_cons]
        exact h5
      · rename_i c1 c2
        have hle := toN_le sepB r
        rcases List.mem_cons.1 h with h | h
        · injection h with e1 e2
          subst e1 e2
          have hlen : (r.take (toN sepB r)).length = toN sepB r := by rw [List.length_take]; omega
          refine ⟨by simp, ?_, Nat.le_refl _, by simp; omega, ?_⟩
          · intro x hx
            rcases List.mem_cons.1 hx with rfl | hx
            · simp [blankB] at c1
              simp at c2
              simp [sepB, c1, c2]
            · exact toN_take r x hx
          · rw [Nat.sub_self, List.drop_zero, List.length_cons, hlen, List.take_succ_cons]
        · obtain ⟨h1, h2, h3, h4, h5⟩ := cutL_mem n _ _ (by simp; omega) t a h
          rw [List.length_drop] at h4
          refine ⟨h1, h2, by omega, by simp; omega, ?_⟩
          rw [List.drop_drop] at h5
          have : a - i = (toN sepB r + (a - (i + 1 + toN sepB r))) + 1 := by omega
          rw [this, List.drop_succ_cons]
          exact h5
theorem cutL_length : ∀ (n : Nat) (l : List UInt8) (i : Nat), l.length ≤ n → (cutL l i).length + ((cutL l i).map fun x => x.1.length).sum ≤ 2 * l.length
  | 0, l, i, hn => by
    obtain rfl := List.eq_nil_of_length_eq_zero (l := l) (by omega)
    rw [cutL_nil]
    simp
  | n + 1, [], i, hn => by
    rw [cutL_nil]
    simp
  | n + 1, b :: r, i, hn => by
    simp only [List.length_cons] at hn ⊢
    rw [cutL_cons]
    split
    · have := cutL_length n r (i + 1) (by omega)
      omega
    · split
      · have := cutL_length n (r.drop (toN lineB r)) (i + 1 + toN lineB r) (by simp; omega)
        rw [List.length_drop] at this
        omega
      · have hle := toN_le sepB r
        have := cutL_length n (r.drop (toN sepB r)) (i + 1 + toN sepB r) (by simp; omega)
        rw [List.length_drop] at this
        have hlen : (r.take (toN sepB r)).length = toN sepB r := by rw [List.length_take]; omega
        simp only [List.length_cons, List.map_cons, List.sum_cons, hlen]
        omega
/-- A word, with what parts it from what comes behind. -/
theorem cut_piece (w g rest : List UInt8) (i : Nat) (hw : w ≠ []) (hs : ∀ b ∈ w, sepB b = false) (hg : ∃ c r, g = c :: r ∧ sepB c = true) :
    cutL (w ++ (g ++ rest)) i = (w, i) :: cutL (g ++ rest) (i + w.length) := by
  obtain ⟨c, r, rfl, hc⟩ := hg
  match w, hw with
  | b :: v, _ =>
    have hb := hs b (by simp)
    have hb' : blankB b = false ∧ (b == 35) = false := by
      simp [sepB] at hb
      simp [blankB, hb]
    have hv : ∀ x ∈ v, sepB x = false := fun x hx => hs x (by simp [hx])
    have hn : toN sepB (v ++ (c :: r ++ rest)) = v.length := by
      rw [toN_append _ hv]
      simp [toN, hc]
    rw [List.cons_append, cutL_cons, if_neg (by simp [hb'.1]), if_neg (by simp [hb'.2]), hn]
    rw [List.take_left, List.drop_left]
    congr 2
    simp
    omega
end Go.Proofs.YtnnddmojcaicbaaDoor
end
section
/- Rows of words in memory. -/
namespace Go.Proofs.YtnnddmojcaicbaaDoor
open Go.RowKit

abbrev W := List UInt8 × Nat
def strV (t : List UInt8) : Value := .string ⟨t.toArray⟩
/-- A word's two cells. -/
def encW (x : W) : List Value := [.string ⟨x.1.toArray⟩, .int .i64 (x.2 : Int)]
def flatW (l : List W) : List Value := l.flatMap encW
theorem flatW_length (l : List W) : (flatW l).length = l.length * 2 := by
  induction l with
  | nil => rfl
  | cons x r ih => unfold flatW at ih ⊢; rw [List.flatMap_cons, List.length_append, ih, List.length_cons]; show 2 + _ = _; omega
theorem flatW_snoc (l : List W) (x : W) : flatW (l ++ [x]) = flatW l ++ encW x := by simp [flatW]
theorem flatW_get : ∀ (l : List W) (k : Nat) (x : W), l[k]? = some x → (flatW l)[k * 2]? = some (.string ⟨x.1.toArray⟩) ∧ (flatW l)[k * 2 + 1]? = some (.int .i64 (x.2 : Int))
  | [], k, x, h => by simp at h
  | y :: r, 0, x, h => by
    simp at h
    subst h
    exact ⟨rfl, rfl⟩
  | y :: r, k + 1, x, h => by
    have ih := flatW_get r k x (by simpa using h)
    unfold flatW at ih ⊢
    rw [List.flatMap_cons]
    have e1 : (k + 1) * 2 = (k * 2 + 1) + 1 := by omega
    have e2 : (k + 1) * 2 + 1 = (k * 2 + 1 + 1) + 1 := by omega
    rw [e1]
    exact ih

/-- The slice v holds just these words, in a row of its own, from block base on. -/
def WRow (T : TypeId) (w : World) (base : Nat) (v : Value) (l : List W) : Prop := w.ownsRow base T 2 v l.length (flatW l)
variable {T : TypeId} {w w' : World} {base : Nat} {v : Value} {l : List W}
theorem WRow.nil (T : TypeId) (w : World) (base : Nat) : WRow T w base (.slice none 0 0) [] := World.ownsRow_nil w base _ 2
theorem WRow.shape (h : WRow T w base v l) : ∃ a cap, v = .slice a l.length cap := by
  rcases h.2 with ⟨rfl, h2⟩ | ⟨g, cap, cur, rfl, _⟩
  · exact ⟨none, 0, by rw [h2]⟩
  · exact ⟨_, cap, rfl⟩
theorem WRow.some_ (h : WRow T w base v l) (h0 : 0 < l.length) : ∃ g cap, v = .slice (some ⟨g, 0, none⟩) l.length cap ∧ base ≤ g ∧ g < w.heap.size ∧ l.length ≤ cap ∧ cap ≤ maxLen := by
  rcases h.2 with ⟨_, h2⟩ | ⟨g, cap, cur, hv, hb, hg, hc, hm, _⟩
  · omega
  · exact ⟨g, cap, hv, hb, (Array.getElem?_eq_some_iff.1 hg).1, hc, hm⟩
theorem WRow.kept {S : Nat → Prop} (h : WRow T w base v l) (hm : Mod S w w') (hs : ∀ k, v.ownBlock = some k → ¬ S k) : WRow T w' base v l := by
  refine ⟨h.1, ?_⟩
  rcases h.2 with h2 | ⟨g, cap, cur, rfl, hb, hg, r⟩
  · exact .inl h2
  · refine .inr ⟨g, cap, cur, rfl, hb, ?_, r⟩
    rw [hm.block g (Array.getElem?_eq_some_iff.1 hg).1 (hs g rfl)]
    exact hg
theorem WRow.below (h : WRow T w base v l) (hb : Below w.heap.size w w') : WRow T w' base v l := h.kept (Mod.of_below (fun _ => False) hb) (fun _ _ h => h)
theorem WRow.rebase {base' : Nat} (h : WRow T w base v l) (hb : base' ≤ base) : WRow T w base' v l := by
  refine ⟨h.1, ?_⟩
  rcases h.2 with h2 | ⟨g, cap, cur, rfl, hb', r⟩
  · exact .inl h2
  · exact .inr ⟨g, cap, cur, rfl, by omega, r⟩
theorem WRow.cells {g n cap : Nat} (h : WRow T w base (.slice (some ⟨g, 0, none⟩) n cap) l) {k : Nat} {x : W} (hk : l[k]? = some x) :
    w.cell? ⟨g, k * 2, none⟩ = some (.string ⟨x.1.toArray⟩) ∧ w.cell? ⟨g, k * 2 + 1, none⟩ = some (.int .i64 (x.2 : Int)) := by
  obtain ⟨h1, h2⟩ := flatW_get l k x hk
  have c1 := World.ownsRow.cells h (g := g) rfl _ _ h1
  have c2 := World.ownsRow.cells h (g := g) rfl _ _ h2
  simp only [Addr.add_lit, Nat.zero_add] at c1 c2
  exact ⟨c1, c2⟩
theorem WRow.snoc {v' : Value} {x : W} (h : w.ownsRow base T 2 v' (l.length + 1) (flatW l ++ encW x)) : WRow T w base v' (l ++ [x]) := by
  unfold WRow
  rw [flatW_snoc, List.length_append]
  exact h
theorem infoW : (Tryd.prog.info? 100).map (fun i => (i.zero, i.size, i.bytes)) = some (some (.agg #[.string ⟨#[]⟩, .int .i64 0]), 2, 24) := by kernel_rfl
theorem infoI : (Tryd.prog.info? 2).map (fun i => (i.zero, i.size, i.bytes)) = some (some (.int .i64 0), 1, 8) := by kernel_rfl
theorem oneW (x : W) : ∀ u ∈ encW x, u.oneCell' = true := by
  intro u hu
  simp [encW] at hu
  rcases hu with rfl | rfl <;> rfl
/-- A piece of a text, as a string. -/
theorem extract_str (s : ByteArray) (a b : Nat) : s.extract a b = ⟨((s.data.toList.drop a).take (b - a)).toArray⟩ := by
  apply ByteArray.ext
  apply Array.ext'
  simp [ByteArray.extract, ByteArray.copySlice]
end Go.Proofs.YtnnddmojcaicbaaDoor
end
section
/- Package word: which bytes may stand; where the first of some is; a copy of a string. -/
namespace Go.Proofs.YtnnddmojcaicbaaDoor
open Go.RowKit

/-! ### A text's places, at a string -/
section
variable (p : UInt8 → Bool) (s : ByteArray) (k : Nat) (h : k < s.size)
theorem aheadS_le (h : k ≤ s.size) : aheadN p s.data.toList k ≤ s.size := by have := aheadN_le p s.data.toList k (by simpa using h); simpa using this
theorem aheadS_on (hp : p s[k] = false) : aheadN p s.data.toList k = aheadN p s.data.toList (k + 1) := aheadN_on p s.data.toList k (by simpa using h) hp
theorem aheadS_at (hp : p s[k] = true) : aheadN p s.data.toList k = k := aheadN_at p s.data.toList k (by simpa using h) hp
theorem aheadS_end (h : k = s.size) : aheadN p s.data.toList k = k := aheadN_end p s.data.toList k (by simpa using h)
theorem aheadS_gt (hp : p s[k] = false) : k < aheadN p s.data.toList k := aheadN_gt p s.data.toList k (by simpa using h) hp
theorem cutS_blank (hb : blankB s[k] = true) : cutL (s.data.toList.drop k) k = cutL (s.data.toList.drop (k + 1)) (k + 1) := cut_blank s.data.toList k (by simpa using h) hb
theorem cutS_line (hb : s[k] = 35) : cutL (s.data.toList.drop k) k = cutL (s.data.toList.drop (aheadN lineB s.data.toList k)) (aheadN lineB s.data.toList k) := cut_line s.data.toList k (by simpa using h) hb
theorem cutS_word (hb : sepB s[k] = false) : cutL (s.data.toList.drop k) k = ((s.data.toList.drop k).take (aheadN sepB s.data.toList k - k), k) :: cutL (s.data.toList.drop (aheadN sepB s.data.toList k)) (aheadN sepB s.data.toList k) := cut_word s.data.toList k (by simpa using h) hb
theorem cutS_end (h : s.size ≤ k) : cutL (s.data.toList.drop k) k = [] := cut_end s.data.toList k (by simpa using h)
end
theorem byte_ne {b c : UInt8} (h : b ≠ c) : ((b.toNat : Int) == (c.toNat : Int)) = false := by
  simp
  intro g
  exact h (UInt8.toNat_inj.1 (by omega))

theorem stands_any (b : UInt8) (w : World) : Calls Tryd.prog 61 #[.int .u8 b.toNat] w fun e w' => e = .returned (.bool (standB b)) ∧ w = w' := by
  by_cases h1 : b = 10
  · subst h1
    go_enter Tryd.func61, Tryd.ntmps61
    go_wp2
    go_ret
    exact ⟨rfl, rfl⟩
  · have h2 : ((b.toNat : Int) == 10) = false := by
      simp
      intro h
      apply h1
      apply UInt8.toNat_inj.1
      simp; omega
    have h3 : (b == 10) = false := by simpa using h1
    have HS : Hid (standB b = (decide (32 ≤ b.toNat) && decide (b.toNat ≤ 126))) := Lib.hid (by unfold standB; rw [h3]; rfl)
    clear h1 h3
    by_cases h4 : 32 ≤ b.toNat
    · have h5 : decide (32 ≤ b.toNat) = true := decide_eq_true h4
      go_enter Tryd.func61, Tryd.ntmps61
      go_wp2
      go_ret
      refine ⟨?_, rfl⟩
      rw [HS.out]
      simp [h4]
      omega
    · have h5 : decide (32 ≤ b.toNat) = false := decide_eq_false h4
      go_enter Tryd.func61, Tryd.ntmps61
      go_wp2
      go_ret
      refine ⟨?_, rfl⟩
      rw [HS.out]
      simp [h4]

theorem clone_any (s : ByteArray) (w : World) (hlim : s.size ≤ 281474976710656) : Calls Tryd.prog 69 #[.string s] w fun e w' => e = .returned (.string s) ∧ Below w.heap.size w w' := by
  go_enter Tryd.func69, Tryd.ntmps69
  go_wp2_with (go_at_call 76; refine (Tryd.stringslite_Clone _ _ hlim).mono ?_; rintro e w' ⟨rfl, hb⟩)
  go_ret
  exact ⟨rfl, hb⟩

/-- Where from a place on the first of some bytes is. -/
theorem ahead_any (s : ByteArray) (k : Nat) (chars : ByteArray) (p : UInt8 → Bool) (w : World) (hs : s.size ≤ 1000000000) (hk : k ≤ s.size) (hc : chars.size ≤ 3)
    (ha : ∀ b ∈ s.data.toList, b.toNat < 128) (hac : ∀ b ∈ chars.data.toList, b.toNat < 128) (hp : ∀ b, chars.data.toList.contains b = p b) :
    Calls Tryd.prog 68 #[.string s, .int .i64 k, .string chars] w fun e w' => e = .returned (.int .i64 (aheadN p s.data.toList k : Nat)) ∧ Below w.heap.size w w' := by
  have hx : (s.extract k s.size).data.toList = s.data.toList.drop k := by
    rw [extract_str]
    rw [List.take_of_length_le (by simp)]
  have hxs : (s.extract k s.size).size = s.size - k := by simp
  have hI := Tryd.strings_IndexAny_laid (s.extract k s.size) chars w (by omega) (by omega) (fun j b hj => ha b (by rw [hx] at hj; exact List.mem_of_mem_drop (List.mem_of_getElem? hj))) (fun j b hj => hac b (List.mem_of_getElem? hj))
  rw [hx, indexAny_toN, toN_congr hp] at hI
  have hle := toN_le p (s.data.toList.drop k)
  have hlen : (s.data.toList.drop k).length = s.size - k := by simp
  have HA : Hid (aheadN p s.data.toList k = k + toN p (s.data.toList.drop k)) := Lib.hid rfl
  generalize toN p (s.data.toList.drop k) = q at *
  rw [hlen] at hI hle
  clear hx hlen ha hac hp
  by_cases hq : q < s.size - k
  · rw [if_pos hq] at hI
    have HI := Lib.hid hI; clear hI
    have HX := Lib.hid hxs; clear hxs
    have hq0 : ¬ (q : Int) < 0 := by omega
    go_enter Tryd.func68, Tryd.ntmps68
    go_wp2_with (go_at_call 75; refine HI.out.mono ?_; rintro e w' ⟨rfl, hb⟩)
    go_ret
    exact ⟨by rw [HA.out]; simp, hb⟩
  · rw [if_neg hq] at hI
    have HI := Lib.hid hI; clear hI
    have HX := Lib.hid hxs; clear hxs
    have HQ := Lib.hid (show q = s.size - k by omega)
    go_enter Tryd.func68, Tryd.ntmps68
    go_wp2_with (go_at_call 75; refine HI.out.mono ?_; rintro e w' ⟨rfl, hb⟩)
    go_ret
    exact ⟨by rw [HA.out]; exact ret_int (by have := HQ.out; omega), hb⟩
end Go.Proofs.YtnnddmojcaicbaaDoor
end
section
/- Package word: cut, Split. -/
namespace Go.Proofs.YtnnddmojcaicbaaDoor
open Go.RowKit

/-- What cut keeps from round to round. -/
structure CutR (T : TypeId) (w : World) (s : List UInt8) (k : Nat) (v : Value) (acc : List W) (wr : World) : Prop where
  row : WRow T wr w.heap.size v acc
  below : Below w.heap.size w wr
  words : acc ++ cutL (s.drop k) k = cutL s 0
  len : acc.length ≤ k
variable {T : TypeId} {w wr w2 : World} {s : List UInt8} {k : Nat} {v : Value} {acc : List W}
theorem CutR.start (T : TypeId) (w : World) (s : List UInt8) : CutR T w s 0 (.slice none 0 0) [] w := ⟨WRow.nil _ _ _, Below.refl _ _, by simp, Nat.le_refl _⟩
theorem CutR.later (h : CutR T w s k v acc wr) (hb : Below wr.heap.size wr w2) : CutR T w s k v acc w2 :=
  ⟨h.row.below hb, h.below.trans (hb.mono h.below.size), h.words, h.len⟩
theorem CutR.go {k' : Nat} (h : CutR T w s k v acc wr) (hc : cutL (s.drop k) k = cutL (s.drop k') k') (hk : k ≤ k') : CutR T w s k' v acc wr :=
  ⟨h.row, h.below, by rw [← hc]; exact h.words, Nat.le_trans h.len hk⟩
theorem CutR.word {k' : Nat} {x : W} {v' : Value} (h : CutR T w s k v acc wr) (hc : cutL (s.drop k) k = x :: cutL (s.drop k') k') (hk : k < k')
    (hown : w2.ownsRow w.heap.size T 2 v' (acc.length + 1) (flatW acc ++ encW x)) (hg : wr.grownBy w2 v.ownBlock) : CutR T w s k' v' (acc ++ [x]) w2 :=
  ⟨WRow.snoc hown, ((Mod.of_below (fun k => w.heap.size ≤ k) h.below).grown hg (fun k hk => .inl (World.ownsRow.lt h.row k hk).1)).below (Nat.le_refl _) (fun _ h => h),
    by rw [← h.words, hc]; simp, by have := h.len; simp; omega⟩
theorem CutR.done (h : CutR T w s k v acc wr) (hk : s.length ≤ k) : WRow T wr w.heap.size v (cutL s 0) := by
  have := h.words
  rw [cut_end s k hk, List.append_nil] at this
  rw [← this]
  exact h.row
theorem CutR.cap (h : CutR T w s k v acc wr) : ∃ a cap, v = .slice a acc.length cap := h.row.shape

set_option maxHeartbeats 1000000 in
set_option maxRecDepth 100000 in
theorem cut_any (s : ByteArray) (w : World) (hs : s.size ≤ 131072) (hst : toN badB s.data.toList = s.size) :
    Calls Tryd.prog 62 #[.string s] w fun e w' => ∃ v, e = .returned v ∧ WRow 100 w' w.heap.size v (cutL s.data.toList 0) ∧ Below w.heap.size w w' := by
  obtain ⟨i0, hi, hz0, hz1, hz2⟩ := info_parts infoW
  have ha : ∀ b ∈ s.data.toList, b.toNat < 128 := fun b hb => by
    have := toN_all (p := badB) (l := s.data.toList) (by rw [hst]; simp) b hb
    simp [badB, standB] at this
    by_cases h10 : b = 10
    · subst h10
      decide
    · have := this h10
      omega
  have hsl : s.data.toList.length = s.size := by simp
  have HA := Lib.hid ha; clear ha
  have HSL := Lib.hid hsl; clear hsl
  clear hst
  have HC0 := Lib.hid (CutR.start 100 w s.data.toList)
  go_enter Tryd.func62, Tryd.ntmps62
  go_wp2
  go_loopw [3, 4] (fun l i wr => ∃ (k : Nat) (v : Value) (acc : List W), i = .int .i64 k ∧ v = l ∧ k ≤ s.size ∧ Hid (CutR 100 w s.data.toList k v acc wr)) (fun _ i _ => s.size - (intOf i).toNat)
  case atStart => exact ⟨0, _, [], rfl, rfl, Nat.zero_le _, HC0⟩
  case round =>
    obtain ⟨k, v, acc, rfl, rfl, hk, HC⟩ := hrel
    clear HC0
    by_cases hlt : k < s.size
    · by_cases hb : blankB s[k] = true
      · have HG := Lib.hid (HC.out.go (cutS_blank s k hlt hb) (Nat.le_succ k))
        clear HC
        by_cases h32 : s[k] = 32
        · have t1 : ((s[k].toNat : Int) == 32) = true := by rw [h32]; rfl
          clear h32 hb
          go_wp2
          go_roundw
          case rel => exact ⟨k + 1, _, acc, by go_num, rfl, by omega, HG⟩
          case measure => simp [intOf]; omega
        · have h10 : s[k] = 10 := by simpa [blankB, h32] using hb
          have t1 : ((s[k].toNat : Int) == 32) = false := by rw [h10]; rfl
          have t2 : ((s[k].toNat : Int) == 10) = true := by rw [h10]; rfl
          clear h32 h10 hb
          go_wp2
          go_roundw
          case rel => exact ⟨k + 1, _, acc, by go_num, rfl, by omega, HG⟩
          case measure => simp [intOf]; omega
      · have hb' : blankB s[k] = false := by simpa using hb
        have t1 : ((s[k].toNat : Int) == 32) = false := byte_ne (c := 32) (by
          simp [blankB] at hb'
          exact hb'.1)
        have t2 : ((s[k].toNat : Int) == 10) = false := byte_ne (c := 10) (by
          simp [blankB] at hb'
          exact hb'.2)
        clear hb
        by_cases h35 : s[k] = 35
        · have t3 : ((s[k].toNat : Int) == 35) = true := by rw [h35]; rfl
          have g1 := aheadS_gt lineB s k hlt (by rw [h35]; rfl)
          have g3 := aheadS_le lineB s k hk
          have HG := Lib.hid (HC.out.go (cutS_line s k hlt h35) (Nat.le_of_lt g1))
          have HAH := Lib.hid (ahead_any s k ⟨#[10]⟩ lineB wr (by omega) hk (by decide) HA.out (by decide) contains_line)
          clear HC h35 hb'
          generalize aheadN lineB s.data.toList k = q at *
          go_wp2_with (go_at_call 68; refine HAH.out.mono ?_; rintro e w2 ⟨rfl, hb2⟩; have HG2 := Lib.hid (HG.out.later hb2); clear hb2 HG)
          go_roundw
          case rel => exact ⟨q, _, acc, by go_num, rfl, g3, HG2⟩
          case measure => simp [intOf]; omega
        · have t3 : ((s[k].toNat : Int) == 35) = false := byte_ne (c := 35) h35
          have hsep : sepB s[k] = false := by
            simp [blankB] at hb'
            simp [sepB, hb', h35]
          have g1 := aheadS_gt sepB s k hlt hsep
          have g3 := aheadS_le sepB s k hk
          have HW := Lib.hid (cutS_word s k hlt hsep)
          have HAH := Lib.hid (ahead_any s k ⟨#[32, 10, 35]⟩ sepB wr (by omega) hk (by decide) HA.out (by decide) contains_sep)
          have hal : acc.length ≤ k := HC.out.len
          clear h35 hb' hsep
          generalize aheadN sepB s.data.toList k = q at *
          have HX := Lib.hid (extract_str s k q)
          have hxs : (s.extract k q).size ≤ 281474976710656 := by simp; omega
          have hkq : k ≤ q := by omega
          obtain ⟨va, vc, rfl⟩ := HC.out.cap
          go_wp2_with (first
            | (go_at_call 68; refine HAH.out.mono ?_; rintro e w2 ⟨rfl, hb2⟩; have HC2 := Lib.hid (HC.out.later hb2); clear hb2 HC)
            | (go_at_call 69; refine (clone_any _ _ hxs).mono ?_; rintro e w3 ⟨rfl, hb3⟩; have HC3 := Lib.hid ((HC2.out.later hb3).later ((Below.refl _ _).alloc (Nat.le_refl _) (.cells #[.string (s.extract k q), .int .i64 k] 100))); clear hb3 HC2; rw [HX.out] at HC3 ⊢; have HB3 := Lib.hid HC3.out.below.size)
            | (at_builtin; refine wpList_append_fresh rfl (.tmp 16) (.tmp 24) 90 rfl w.heap.size 100 i0 _ 2 24 Tryd.underlying90 hi hz0 hz1 hz2 (by decide) (.slice va acc.length vc) acc.length (flatW acc) rfl HC3.out.row ⟨w3.heap.size, 0, none⟩ 1 (encW ((s.data.toList.drop k).take (q - k), k)) rfl rfl (by intro j u hj; match j, hj with | 0, hj => simp [encW] at hj; subst hj; simp [Addr.add] | 1, hj => simp [encW] at hj; subst hj; simp [Addr.add]) (oneW _) (by unfold maxLen; omega) (by omega) HB3.out ?_; intro g cap' w4 hown hgrow hfr; have HC4 := Lib.hid (HC3.out.word HW.out g1 hown hgrow); clear hown hgrow hfr HC3 HB3))
          go_roundw
          case rel => exact ⟨q, _, _, by go_num, rfl, g3, HC4⟩
          case measure => simp [intOf]; omega
    · have hd := HC.out.done (by have := HSL.out; omega)
      have HD := Lib.hid hd; clear hd
      have HB := Lib.hid HC.out.below
      go_wp2
      go_ret
      exact ⟨_, rfl, HD.out, HB.out⟩
end Go.Proofs.YtnnddmojcaicbaaDoor
end
section
/- Package word: Split. -/
namespace Go.Proofs.YtnnddmojcaicbaaDoor
open Go.RowKit

/-- What Split and the reference tell of a text: where the first byte is that may not stand. -/
theorem badS_yes {s : ByteArray} {k : Nat} (h : k < s.size) (hb : standB s[k] = false) : aheadN badB s.data.toList k = k := aheadS_at badB s k h (by simp [badB, hb])
theorem badS_no {s : ByteArray} {k : Nat} (h : k < s.size) (hb : standB s[k] = true) : aheadN badB s.data.toList k = aheadN badB s.data.toList (k + 1) := aheadS_on badB s k h (by simp [badB, hb])

theorem ret_bad {v c : Value} {k q : Nat} (h : k = q) : Ending.returned (.tuple #[v, .int .i64 (k : Int), c]) = .returned (.tuple #[v, .int .i64 (q : Int), c]) := by rw [h]

theorem split_big (s : ByteArray) (w : World) (hs : 131072 < s.size) (hm : s.size ≤ 9223372036854775807) :
    Calls Tryd.prog 47 #[.string s] w fun e w' => e = .returned (.tuple #[.slice none 0 0, .int .i64 0, .int .i64 4]) ∧ w = w' := by
  have h1 : (131072 : Int) < (s.size : Int) := by omega
  go_enter Tryd.func47, Tryd.ntmps47
  go_wp2
  go_ret3
  exact ⟨rfl, rfl⟩

theorem split_bad (s : ByteArray) (w : World) (hs : s.size ≤ 131072) (hb : toN badB s.data.toList < s.size) :
    Calls Tryd.prog 47 #[.string s] w fun e w' => e = .returned (.tuple #[.slice none 0 0, .int .i64 (toN badB s.data.toList : Nat), .int .i64 3]) ∧ w = w' := by
  have h1 : ¬ (131072 : Int) < (s.size : Int) := by omega
  have HZ := Lib.hid (aheadN_zero badB s.data.toList)
  generalize toN badB s.data.toList = q at *
  go_enter Tryd.func47, Tryd.ntmps47
  go_wp2
  go_loop [11] (fun i => ∃ k : Nat, i = .int .i64 k ∧ k ≤ s.size ∧ Hid (aheadN badB s.data.toList k = q)) (fun i => s.size - (intOf i).toNat)
  case atStart => exact ⟨0, rfl, Nat.zero_le _, HZ⟩
  case round =>
    obtain ⟨k, rfl, hk, HK⟩ := hrel
    clear HZ
    by_cases hlt : k < s.size
    · cases hst : standB s[k] with
      | true =>
        have HG := Lib.hid ((badS_no hlt hst).symm.trans HK.out)
        have HSt : Hid (∀ w, Calls Tryd.prog 61 #[.int .u8 s[k].toNat] w fun e w' => e = .returned (.bool true) ∧ w = w') := Lib.hid fun w => hst ▸ stands_any s[k] w
        clear hst HK
        go_wp2_with (go_at_call 61; refine (HSt.out _).mono ?_; rintro e w' ⟨rfl, rfl⟩)
        go_round
        case rel => exact ⟨k + 1, by go_num, by omega, HG⟩
        case measure => simp [intOf]; omega
      | false =>
        have HG := Lib.hid ((badS_yes hlt hst).symm.trans HK.out)
        have HSt : Hid (∀ w, Calls Tryd.prog 61 #[.int .u8 s[k].toNat] w fun e w' => e = .returned (.bool false) ∧ w = w') := Lib.hid fun w => hst ▸ stands_any s[k] w
        clear hst HK
        go_wp2_with (go_at_call 61; refine (HSt.out _).mono ?_; rintro e w' ⟨rfl, rfl⟩)
        go_ret3
        exact ⟨ret_bad HG.out, rfl⟩
    · exfalso
      have h2 := aheadS_end badB s k (by omega)
      have := HK.out
      omega

theorem split_good (s : ByteArray) (w : World) (hs : s.size ≤ 131072) (hb : toN badB s.data.toList = s.size) :
    Calls Tryd.prog 47 #[.string s] w fun e w' => ∃ v, e = .returned (.tuple #[v, .int .i64 0, .int .i64 0]) ∧ WRow 100 w' w.heap.size v (cutL s.data.toList 0) ∧ Below w.heap.size w w' := by
  have h1 : ¬ (131072 : Int) < (s.size : Int) := by omega
  have HCut := Lib.hid (cut_any s w hs hb)
  have hz := aheadN_zero badB s.data.toList
  rw [hb] at hz
  have HZ := Lib.hid hz
  clear hb hz
  go_enter Tryd.func47, Tryd.ntmps47
  go_wp2
  go_loop [11] (fun i => ∃ k : Nat, i = .int .i64 k ∧ k ≤ s.size ∧ Hid (aheadN badB s.data.toList k = s.size)) (fun i => s.size - (intOf i).toNat)
  case atStart => exact ⟨0, rfl, Nat.zero_le _, HZ⟩
  case round =>
    obtain ⟨k, rfl, hk, HK⟩ := hrel
    clear HZ
    by_cases hlt : k < s.size
    · have hst : standB s[k] = true := by
        cases h : standB s[k] with
        | true => rfl
        | false => have := (badS_yes hlt h).symm.trans HK.out; omega
      have HG := Lib.hid ((badS_no hlt hst).symm.trans HK.out)
      have HSt : Hid (∀ w, Calls Tryd.prog 61 #[.int .u8 s[k].toNat] w fun e w' => e = .returned (.bool true) ∧ w = w') := Lib.hid fun w => hst ▸ stands_any s[k] w
      clear hst HK
      go_wp2_with (go_at_call 61; refine (HSt.out _).mono ?_; rintro e w' ⟨rfl, rfl⟩)
      go_round
      case rel => exact ⟨k + 1, by go_num, by omega, HG⟩
      case measure => simp [intOf]; omega
    · go_wp2_with (go_at_call 62; refine HCut.out.mono ?_; rintro e w' ⟨v, rfl, hr, hb⟩; have HR := Lib.hid hr; have HB := Lib.hid hb; clear hr hb)
      go_ret3
      exact ⟨_, rfl, HR.out, HB.out⟩
end Go.Proofs.YtnnddmojcaicbaaDoor
end
