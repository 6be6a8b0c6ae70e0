/- Package order: Late: what is kept from node to node. (Plain mathematics, and the row in memory.) -/
import Derived.Test.YtgoegkajfhhcjaaOLateErr
import Derived.Test.YtgoegkajfhhcjaaOBack
import Derived.Laws.CopyOwn
import Derived.Laws.IdiomCopy
namespace Go.Proofs.Ytgoegkajfhhcjaa
open Go.RowKit

variable {l : List Ar} {N c q k f : Nat} {o out : List Nat} {beg got : Nat → Int} {x : Ar} {xs : List Int}
theorem Seq.closed (h : Seq l N o) : ∀ x ∈ l, ∀ j : Nat, x.2.1 = (j : Int) → j ∈ o → ∃ f : Nat, x.1 = (f : Int) ∧ f ∈ o := by
  induction h with
  | nil => intro x _ j _ hj; cases hj
  | snoc h hi hf hm ih =>
    rename_i o i
    intro x hx j hxj hj
    simp at hj
    rcases hj with hj | hj
    · obtain ⟨f, h1, h2⟩ := ih x hx j hxj hj
      exact ⟨f, h1, by simp [h2]⟩
    · subst hj
      obtain ⟨f, h1, h2⟩ := hf.2 x hx hxj
      exact ⟨f, h1, by simp [h2]⟩
/-- Of the nodes in o all is told; of node c the first q arcs to it are. -/
structure LateQ (l : List Ar) (N : Nat) (beg got : Nat → Int) (o : List Nat) (c q : Nat) : Prop where
  rest : ∀ i, i < N → i ∉ o → i ≠ c → got i = beg i
  lo : ∀ i, i < N → beg i ≤ got i
  arc : ∀ x ∈ l, ∀ i j : Nat, x.1 = (i : Int) → x.2.1 = (j : Int) → j ∈ o → got i + x.2.2 ≤ got j
  carc : ∀ j, j < q → ∀ (k : Nat) (x : Ar) (i : Nat), (outK (turned l) c)[j]? = some (k : Int) → l[k]? = some x → x.1 = (i : Int) → got i + x.2.2 ≤ got c
  att : ∀ i, i < N → got i = beg i ∨ ∃ x ∈ l, ∃ f : Nat, f ∈ o ∧ x.1 = (f : Int) ∧ x.2.1 = (i : Int) ∧ got i = got f + x.2.2
  hi : ∀ i, i < N → i ≠ c → got i ≤ 1125899906842624 + (o.length : Int) * 1099511627776
  hic : got c ≤ 1125899906842624 + (o.length : Int) * 1099511627776 + 1099511627776
/-- Of the nodes in o all is told. -/
structure LateO (l : List Ar) (N : Nat) (beg got : Nat → Int) (o : List Nat) : Prop where
  rest : ∀ i, i < N → i ∉ o → got i = beg i
  lo : ∀ i, i < N → beg i ≤ got i
  arc : ∀ x ∈ l, ∀ i j : Nat, x.1 = (i : Int) → x.2.1 = (j : Int) → j ∈ o → got i + x.2.2 ≤ got j
  att : ∀ i, i < N → got i = beg i ∨ ∃ x ∈ l, ∃ f : Nat, f ∈ o ∧ x.1 = (f : Int) ∧ x.2.1 = (i : Int) ∧ got i = got f + x.2.2
  hi : ∀ i, i < N → got i ≤ 1125899906842624 + (o.length : Int) * 1099511627776
theorem LateO.start (hb : ∀ i, i < N → beg i ≤ 1125899906842624) : LateO l N beg beg [] :=
  ⟨fun _ _ _ => rfl, fun _ _ => Int.le_refl _, fun _ _ _ _ _ _ h => (by cases h), fun _ _ => .inl rfl, fun i hi => (by have := hb i hi; simp; omega)⟩
theorem LateO.begin_ (h : LateO l N beg got o) (hc : c < N) : LateQ l N beg got o c 0 :=
  ⟨fun i hi h1 _ => h.rest i hi h1, h.lo, h.arc, fun j hj => by omega, h.att, fun i hi _ => h.hi i hi, by have := h.hi c hc; omega⟩
/-- The new number at c. -/
def lateAt (got : Nat → Int) (c : Nat) (d : Int) : Nat → Int := fun i => if i = c then d else got i
theorem LateQ.step {d : Int} (h : LateQ l N beg got o c q) (hcl : ∀ x ∈ l, ∀ j : Nat, x.2.1 = (j : Int) → j ∈ o → ∃ f : Nat, x.1 = (f : Int) ∧ f ∈ o) (hfr : Free l o c) (hq : (outK (turned l) c)[q]? = some (k : Int)) (hx : l[k]? = some x) (hxc : x.2.1 = (c : Int)) (hxf : x.1 = (f : Int)) (hw : x.2.2 ≤ 1099511627776) (hfN : f < N)
    (hd : (d = got c ∧ got f + x.2.2 ≤ d) ∨ (d = got f + x.2.2 ∧ got c ≤ d)) : LateQ l N beg (lateAt got c d) o c (q + 1) := by
  have hxl := List.mem_of_getElem? hx
  have hfo : f ∈ o := by
    obtain ⟨f2, h1, h2⟩ := hfr.2 x hxl hxc
    have : f = f2 := by omega
    rw [this]; exact h2
  have ne : ∀ i, i ≠ c → lateAt got c d i = got i := fun i hi => by simp [lateAt, hi]
  have at_ : lateAt got c d c = d := by simp [lateAt]
  have hoc : ∀ i, i ∈ o → i ≠ c := fun i hi e => hfr.1 (e ▸ hi)
  have hge : got c ≤ d := by rcases hd with ⟨e, _⟩ | ⟨_, e⟩ <;> omega
  have hge2 : got f + x.2.2 ≤ d := by rcases hd with ⟨_, e⟩ | ⟨e, _⟩ <;> omega
  have hfhi := h.hi f hfN (hoc f hfo)
  have hcc := h.hic
  refine ⟨fun i hi h1 h2 => by rw [ne i h2]; exact h.rest i hi h1 h2, fun i hi => ?_, fun y hy i j h1 h2 hj => ?_, fun j hj k2 y i h1 h2 h3 => ?_, fun i hi => ?_, fun i hi h1 => by rw [ne i h1]; exact h.hi i hi h1, ?_⟩
  · by_cases e : i = c
    · subst e; rw [at_]; have := h.lo i hi; omega
    · rw [ne i e]; exact h.lo i hi
  · obtain ⟨f2, h4, h5⟩ := hcl y hy j h2 hj
    have : i = f2 := by omega
    subst this
    rw [ne i (hoc i h5), ne j (hoc j hj)]
    exact h.arc y hy i j h1 h2 hj
  · have hyc : y.2.1 = (c : Int) := by
      obtain ⟨k3, y3, e1, e2, e3⟩ := mem_into.1 (List.mem_of_getElem? h1)
      have : k2 = k3 := by omega
      subst this
      rw [h2] at e2
      cases e2
      exact e3
    obtain ⟨f2, h4, h5⟩ := hfr.2 y (List.mem_of_getElem? h2) hyc
    have : i = f2 := by omega
    subst this
    rw [ne i (hoc i h5), at_]
    by_cases e : j = q
    · subst e
      rw [hq] at h1
      have : k = k2 := by injection h1 with h1; omega
      subst this
      rw [hx] at h2
      cases h2
      have : f = i := by omega
      subst this
      exact hge2
    · have := h.carc j (by omega) k2 y i h1 h2 h3
      omega
  · by_cases e : i = c
    · subst e
      rcases hd with ⟨e, _⟩ | ⟨e, _⟩
      · rcases h.att i hi with h1 | ⟨y, hy, f2, h1, h2, h3, h4⟩
        · exact .inl (by rw [at_, e]; exact h1)
        · exact .inr ⟨y, hy, f2, h1, h2, h3, by rw [at_, ne f2 (hoc f2 h1), e]; exact h4⟩
      · exact .inr ⟨x, hxl, f, hfo, hxf, hxc, by rw [at_, ne f (hoc f hfo)]; exact e⟩
    · rw [ne i e]
      rcases h.att i hi with h1 | ⟨y, hy, f2, h1, h2, h3, h4⟩
      · exact .inl h1
      · exact .inr ⟨y, hy, f2, h1, h2, h3, by rw [ne f2 (hoc f2 h1)]; exact h4⟩
  · rw [at_]
    rcases hd with ⟨e, _⟩ | ⟨e, _⟩ <;> omega
theorem LateQ.done_ (h : LateQ l N beg got o c q) (hq : (outK (turned l) c).length ≤ q) : LateO l N beg got (o ++ [c]) := by
  refine ⟨fun i hi h1 => ?_, h.lo, fun x hx i j h1 h2 hj => ?_, fun i hi => ?_, fun i hi => ?_⟩
  · simp at h1
    exact h.rest i hi h1.1 h1.2
  · simp at hj
    rcases hj with hj | hj
    · exact h.arc x hx i j h1 h2 hj
    · subst hj
      obtain ⟨k, hk⟩ := List.getElem?_of_mem hx
      obtain ⟨m, hm⟩ := List.getElem?_of_mem (mem_into.2 ⟨k, x, rfl, hk, h2⟩)
      have := (List.getElem?_eq_some_iff.1 hm).1
      exact h.carc m (by omega) k x i hm hk h1
  · rcases h.att i hi with h1 | ⟨y, hy, f2, h1, h2, h3, h4⟩
    · exact .inl h1
    · exact .inr ⟨y, hy, f2, by simp [h1], h2, h3, h4⟩
  · simp only [List.length_append, List.length_singleton]
    by_cases e : i = c
    · subst e; have := h.hic; omega
    · have := h.hi i hi e; omega
theorem LateO.all_ (h : LateO l N beg got o) (hw : Whole l N o) (hok : ∀ x ∈ l, okA (N : Int) x = true) : LateIs l N beg got := by
  refine ⟨h.lo, fun x hx i j h1 h2 => ?_, fun i hi => ?_⟩
  · have := okA_true.1 (hok x hx)
    exact h.arc x hx i j h1 h2 (hw.all (by omega))
  · rcases h.att i hi with h1 | ⟨y, hy, f2, h1, h2, h3, h4⟩
    · exact .inl h1
    · exact .inr ⟨y, hy, f2, h2, h3, h4⟩
theorem lateErr_zero (h : lateErr (N : Int) l xs = 0) : xs.length = N ∧ checkV (N : Int) l = 0 ∧ (∀ x ∈ xs, farB x = false) ∧ ∃ o, Whole l N o := by
  unfold lateErr at h
  by_cases h1 : (xs.length : Int) ≠ (N : Int)
  · rw [if_pos h1] at h; cases h
  · rw [if_neg h1] at h
    by_cases h2 : checkV (N : Int) l = 0
    · rw [if_neg (by simp [h2])] at h
      by_cases h3 : ∃ x ∈ xs, x < -1125899906842624 ∨ 1125899906842624 < x
      · rw [if_pos h3] at h; cases h
      · rw [if_neg h3] at h
        refine ⟨by omega, h2, fun x hx => ?_, ?_⟩
        · cases hb : farB x with
          | false => rfl
          | true => exact absurd ⟨x, hx, farB_true.1 hb⟩ h3
        · obtain ⟨o, ho⟩ := whole_or_stuck l N
          rcases ho with ho | ho
          · exact ⟨o, ho⟩
          · rw [if_pos ⟨o, by simpa using ho⟩] at h; cases h
    · rw [if_pos h2] at h; exact absurd h h2

/-! ### The row in memory -/
variable {w wa wr w2 : World} {gb g : Nat} {b : Option Addr} {got2 : Nat → Int}
theorem infoLongZ : (Try.prog.info? 2).map (·.size) = some 1 := by kernel_rfl
/-- copy of what came in into a row that was just made. -/
theorem copy_ints {sT ty : TypeId} {c : Nat} (hi : IsInts w.heap.size w b N xs) (hg : w.heap[g]? = some (.cells (madeCells #[.int .i64 0] N) 2 (0, 0))) :
    ∃ w4, (Builtin.copy_ #[39, sT] ty #[.slice (some ⟨g, 0, none⟩) N N, .slice b N c]).run Try.prog w = .ok (.int .i64 (N : Int)) w4 ∧ w4.rowIs g 2 N (fun i => .int .i64 (xs.getD i 0)) ∧ Below g w w4 := by
  by_cases h0 : N = 0
  · subst h0
    exact ⟨w, run_copy_none w _ _ _ 2 _ _ _ _ _ _ Try.underlying39 infoLongZ rfl, ⟨_, hg, size_madeCells _ _, fun i hi => by omega⟩, Below.refl _ _⟩
  · obtain ⟨hl, hr⟩ := hi
    rcases hr with hr | ⟨bb, off, rfl, hb, hr⟩
    · exact absurd hr h0
    · have hc := run_copy_row (P := Try.prog) w 39 sT ty 2 g 0 N N ⟨bb, off, none⟩ N c _ 2 (xs.map (Value.int .i64)) Try.underlying39 infoLongZ hg (by simp [hl]) (fun j v hj => by
        rw [List.getElem?_map] at hj
        cases hx : xs[j]? with
        | none => rw [hx] at hj; cases hj
        | some x =>
          rw [hx] at hj
          injection hj with hj
          subst hj
          rw [Addr.add_lit]
          exact hr j x hx) (by simp [size_madeCells, hl]) (fun v hv => by
        rw [List.mem_map] at hv
        obtain ⟨y, _, rfl⟩ := hv
        rfl)
      rw [show (xs.map (Value.int .i64)).length = N from by simp [hl]] at hc
      refine ⟨_, hc, ⟨_, setRow_heap _ _ _ _ _ _ hg, ?_, fun i hi => ?_⟩, below_setRow (Below.refl _ _) (Nat.le_refl _) _⟩
      · simp [size_madeCells, hl]
      · have hx : xs[i]? = some (xs[i]'(by omega)) := List.getElem?_eq_getElem (by omega)
        simp [List.getElem?_append, hl, hi, List.getD]
/-- The numbers lie in block gb; nothing else is written. -/
structure GW (wa wr : World) (gb N : Nat) (got : Nat → Int) : Prop where
  mod : Mod (fun k => k = gb) wa wr
  row : wr.rowIs gb 2 N (fun i => .int .i64 (got i))
theorem GW.later (h : GW wa wr gb N got) (hb : Below wr.heap.size wr w2) : GW wa w2 gb N got := ⟨h.mod.trans (Mod.of_below (fun k => k = gb) hb), rowIs_below h.row hb⟩
theorem GW.set_ (h : GW wa wr gb N got) (c : Nat) (d : Int) : GW wa (wr.setCell ⟨gb, c, none⟩ (.int .i64 d)) gb N (lateAt got c d) :=
  ⟨h.mod.setCell (p := ⟨gb, c, none⟩) (.inr rfl) _, (h.row.set c (.int .i64 d)).congr (fun i _ => by by_cases e : i = c <;> simp [e, lateAt])⟩
end Go.Proofs.Ytgoegkajfhhcjaa
