/- Package order: sorted: what lies in memory from round to round. -/
import Derived.Test.YtgoegkajfhhcjaaOrd
import Derived.Test.YtgoegkajfhhcjaaByFrom
import Derived.Test.YtgoegkajfhhcjaaHeap
import Derived.Test.YtgoegkajfhhcjaaHave
import Derived.Test.YtgoegkajfhhcjaaOrderSpec
namespace Go.Proofs.Ytgoegkajfhhcjaa
section part

variable {l : List Ar} {N i k k0 t c q : Nat} {p : Nat → Bool} {out all : List Nat} {done : List Int} {P P2 : List It} {x : Ar}
/-- Of the arcs that are left, how many lead to i. -/
def cntTo (l : List Ar) (p : Nat → Bool) (i : Nat) : Nat := ((List.range l.length).filter (fun k => p k && decide ((l.getD k (0, 0, 0)).2.1 = (i : Int)))).length
/-- All but one. -/
def strike (p : Nat → Bool) (k0 : Nat) : Nat → Bool := fun k => p k && !decide (k = k0)
theorem count_strike (r : Nat → Bool) (k0 n : Nat) : ((List.range n).filter (fun k => r k && !decide (k = k0))).length + (if k0 < n ∧ r k0 = true then 1 else 0) = ((List.range n).filter r).length := by
  induction n with
  | zero => simp
  | succ n ih =>
    rw [List.range_succ, List.filter_append, List.filter_append, List.length_append, List.length_append, ← ih]
    by_cases e : n = k0
    · subst e
      cases hr : r n <;> simp [hr]
    · have h2 : (k0 < n + 1 ∧ r k0 = true) ↔ (k0 < n ∧ r k0 = true) := ⟨fun h => ⟨by omega, h.2⟩, fun h => ⟨by omega, h.2⟩⟩
      have h3 : (List.filter (fun k => r k && !decide (k = k0)) [n]).length = (List.filter r [n]).length := by
        cases hr : r n <;> simp [hr, e]
      rw [h3]
      by_cases hc : k0 < n ∧ r k0 = true
      · rw [if_pos (h2.2 hc), if_pos hc]; omega
      · rw [if_neg (fun h => hc (h2.1 h)), if_neg hc]; omega
theorem cnt_hit (hx : l[k]? = some x) (hp : p k = true) (ht : x.2.1 = (t : Int)) : cntTo l (strike p k) t + 1 = cntTo l p t := by
  have hk : k < l.length := (List.getElem?_eq_some_iff.1 hx).1
  have h := count_strike (fun j => p j && decide ((l.getD j (0, 0, 0)).2.1 = (t : Int))) k l.length
  rw [if_pos ⟨hk, by simp [List.getD, hx, hp, ht]⟩] at h
  unfold cntTo
  rw [← h]
  congr 3
  funext j
  unfold strike
  cases p j <;> simp [Bool.and_comm]
theorem cnt_miss (hx : l[k]? = some x) (ht : x.2.1 ≠ (i : Int)) : cntTo l (strike p k) i = cntTo l p i := by
  have h := count_strike (fun j => p j && decide ((l.getD j (0, 0, 0)).2.1 = (i : Int))) k l.length
  rw [if_neg (fun h => by simp [List.getD, hx, ht] at h)] at h
  unfold cntTo
  rw [← h, Nat.add_zero]
  congr 2
  funext j
  unfold strike
  cases p j <;> simp [Bool.and_comm]
theorem cnt_pos (hx : l[k]? = some x) (hp : p k = true) (ht : x.2.1 = (i : Int)) : 0 < cntTo l p i := by
  have := cnt_hit hx hp ht
  omega
theorem cnt_zero (h : ∀ (k : Nat) (x : Ar), l[k]? = some x → x.2.1 = (i : Int) → p k = false) : cntTo l p i = 0 := by
  unfold cntTo
  rw [List.length_eq_zero_iff, List.filter_eq_nil_iff]
  intro k hk
  have hk2 : k < l.length := by simpa using hk
  have hx := List.getElem?_eq_getElem hk2
  by_cases e : (l[k]'hk2).2.1 = (i : Int)
  · simp [h k _ hx e]
  · simp [List.getD, hx, e]
theorem cnt_le (l : List Ar) (p : Nat → Bool) (i : Nat) : cntTo l p i ≤ l.length := by
  unfold cntTo
  exact Nat.le_trans (List.length_filter_le _ _) (by simp)

/-- What is kept: the arcs that are left; the things in the pile; nothing is left that leads to what is out. -/
structure Kahn (l : List Ar) (N : Nat) (out all : List Nat) (done : List Int) (p : Nat → Bool) (P : List It) : Prop where
  left : ∀ (k : Nat) (x : Ar), l[k]? = some x → (p k = true ↔ (∀ f ∈ out, x.1 ≠ (f : Int)) ∧ (k : Int) ∉ done)
  mem : ∀ y : It, y ∈ P ↔ ∃ i : Nat, y = ((i : Int), (i : Int)) ∧ i < N ∧ i ∉ all ∧ cntTo l p i = 0
  nd : P.Nodup
  zero : ∀ i ∈ all, cntTo l p i = 0
theorem Kahn.start (l : List Ar) : Kahn l 0 [] [] [] (fun _ => true) [] :=
  ⟨fun k x _ => by simp, fun y => ⟨fun h => (by cases h), fun ⟨i, _, h, _⟩ => absurd h (by omega)⟩, List.nodup_nil, fun i h => (by cases h)⟩
/-- The next node: it goes to the pile, or not. -/
theorem Kahn.put (h : Kahn l i [] [] [] p P) (h0 : cntTo l p i = 0) : Kahn l (i + 1) [] [] [] p (((i : Int), (i : Int)) :: P) := by
  refine ⟨h.left, fun y => ?_, List.nodup_cons.2 ⟨fun hm => ?_, h.nd⟩, h.zero⟩
  · rw [List.mem_cons, h.mem]
    constructor
    · rintro (e | ⟨j, e, h1, h2, h3⟩)
      · exact ⟨i, e, by omega, by simp, h0⟩
      · exact ⟨j, e, by omega, h2, h3⟩
    · rintro ⟨j, e, h1, h2, h3⟩
      by_cases q : j = i
      · subst q; exact .inl e
      · exact .inr ⟨j, e, by omega, h2, h3⟩
  · obtain ⟨j, e, h1, _⟩ := (h.mem _).1 hm
    have := congrArg Prod.fst e
    simp at this
    omega
theorem Kahn.skip (h : Kahn l i [] [] [] p P) (h0 : cntTo l p i ≠ 0) : Kahn l (i + 1) [] [] [] p P := by
  refine ⟨h.left, fun y => ?_, h.nd, h.zero⟩
  rw [h.mem]
  constructor
  · rintro ⟨j, e, h1, h2, h3⟩
    exact ⟨j, e, by omega, h2, h3⟩
  · rintro ⟨j, e, h1, h2, h3⟩
    by_cases q : j = i
    · subst q; exact absurd h3 h0
    · exact ⟨j, e, by omega, h2, h3⟩
/-- A node may be next just if it is in the pile. -/
theorem Kahn.free (h : Kahn l N out out [] p P) (hi : i < N) : ((i : Int), (i : Int)) ∈ P ↔ Free l out i := by
  rw [h.mem]
  constructor
  · rintro ⟨j, e, h1, h2, h3⟩
    have e1 := congrArg Prod.fst e
    simp at e1
    have : j = i := by omega
    subst this
    refine ⟨h2, fun x hx hxt => ?_⟩
    obtain ⟨k, hk⟩ := List.getElem?_of_mem hx
    have hp : ¬ p k = true := fun hp => by have := cnt_pos hk hp hxt; omega
    rw [h.left k x hk] at hp
    apply Classical.byContradiction
    intro hn
    exact hp ⟨fun f hf e => hn ⟨f, e, hf⟩, by simp⟩
  · rintro ⟨h1, h2⟩
    refine ⟨i, rfl, hi, h1, cnt_zero fun k x hk hxt => ?_⟩
    obtain ⟨f, e, hf⟩ := h2 x (List.mem_of_getElem? hk) hxt
    cases hp : p k with
    | false => rfl
    | true => exact absurd e (((h.left k x hk).1 hp).1 f hf)
/-- The least one is taken. -/
theorem Kahn.take_ (h : Kahn l N out out [] p P) (hs : Seq l N out) {y : It} (hp : P.Perm (y :: P2)) (hm : ∀ z ∈ P, Le y z) :
    ∃ c : Nat, y = ((c : Int), (c : Int)) ∧ c < N ∧ c ∉ out ∧ Seq l N (out ++ [c]) ∧ Kahn l N out (out ++ [c]) [] p P2 := by
  have hyP : y ∈ P := hp.mem_iff.2 (List.mem_cons_self ..)
  obtain ⟨c, e, hc, hco, hc0⟩ := (h.mem y).1 hyP
  have hnd : (y :: P2).Nodup := hp.nodup_iff.1 h.nd
  refine ⟨c, e, hc, hco, hs.snoc hc ((h.free hc).1 (e ▸ hyP)) (fun j hj hf => ?_), ⟨h.left, fun z => ?_, (List.nodup_cons.1 hnd).2, fun i hi => ?_⟩⟩
  · have hjP := (h.free (by omega)).2 hf
    have := hm _ hjP
    rw [e] at this
    rcases this with this | ⟨h1, h2⟩
    · simp at this; omega
    · simp at h1; omega
  · have hz : z ∈ P2 ↔ z ∈ P ∧ z ≠ y := by
      rw [hp.mem_iff, List.mem_cons]
      constructor
      · intro hz; exact ⟨.inr hz, fun e => (List.nodup_cons.1 hnd).1 (e ▸ hz)⟩
      · rintro ⟨hz | hz, hn⟩
        · exact absurd hz hn
        · exact hz
    rw [hz, h.mem]
    constructor
    · rintro ⟨⟨j, e2, h1, h2, h3⟩, hn⟩
      refine ⟨j, e2, h1, fun hj => ?_, h3⟩
      simp at hj
      rcases hj with hj | hj
      · exact h2 hj
      · subst hj; exact hn (e2.trans e.symm)
    · rintro ⟨j, e2, h1, h2, h3⟩
      simp at h2
      refine ⟨⟨j, e2, h1, h2.1, h3⟩, fun e3 => h2.2 ?_⟩
      rw [e2, e] at e3
      have := congrArg Prod.fst e3
      simp at this
      omega
  · simp at hi
    rcases hi with hi | hi
    · exact h.zero i hi
    · subst hi; exact hc0
theorem outK_nodup (l : List Ar) (i : Nat) : ∀ m, (outK (l.take m) i).Nodup := fun m => by
  induction m with
  | zero => simp [outK]
  | succ m ih =>
    cases hx : l[m]? with
    | none =>
      have h1 := List.getElem?_eq_none_iff.1 hx
      rw [List.take_of_length_le (by omega)] at ih ⊢
      exact ih
    | some x =>
      rw [outK_take hx i]
      by_cases e : x.1 = (i : Int)
      · rw [if_pos e, List.nodup_append]
        refine ⟨ih, by simp, fun a ha b hb => ?_⟩
        simp at hb
        subst hb
        intro e2
        subst e2
        obtain ⟨k, y, e3, h3, _⟩ := mem_outK.1 ha
        have h4 := (List.getElem?_eq_some_iff.1 h3).1
        rw [List.length_take] at h4
        omega
      · rw [if_neg e]; exact ih
theorem outK_fresh {R : List Int} (hR : outK l c = R) {v : Int} (hq : R[q]? = some v) : v ∉ R.take q := by
  have h := outK_nodup l c l.length
  rw [List.take_length, hR] at h
  obtain ⟨hq1, rfl⟩ := List.getElem?_eq_some_iff.1 hq
  intro hm
  have h2 : R = R.take q ++ R.drop q := (List.take_append_drop q R).symm
  rw [h2, List.nodup_append] at h
  exact h.2.2 _ hm _ (by rw [List.drop_eq_getElem_cons hq1]; exact List.mem_cons_self ..) rfl
/-- The arc of the round: where it leads to nothing has been left there. -/
theorem Kahn.arc_ (h : Kahn l N out all ((outK l c).take q) p P) (hc : c ∉ out) (hq : (outK l c)[q]? = some (k : Int)) (hx : l[k]? = some x) (ht : x.2.1 = (t : Int)) : p k = true ∧ 0 < cntTo l p t ∧ t ∉ all := by
  obtain ⟨k2, x2, e1, e2, e3⟩ := mem_outK.1 (List.mem_of_getElem? hq)
  have e4 : k = k2 := by omega
  subst e4
  rw [hx] at e2
  cases e2
  have hp : p k = true := (h.left k x hx).2 ⟨fun f hf e => hc (by have : c = f := (by omega); rw [this]; exact hf), outK_fresh rfl hq⟩
  have := cnt_pos hx hp ht
  exact ⟨hp, this, fun ha => by have := h.zero t ha; omega⟩
theorem Kahn.left_step (h : Kahn l N out all ((outK l c).take q) p P) (hq : (outK l c)[q]? = some (k : Int)) :
    ∀ (j : Nat) (y : Ar), l[j]? = some y → (strike p k j = true ↔ (∀ f ∈ out, y.1 ≠ (f : Int)) ∧ (j : Int) ∉ (outK l c).take (q + 1)) := fun j y hy => by
  have e : (outK l c).take (q + 1) = (outK l c).take q ++ [(k : Int)] := by rw [List.take_add_one, hq]; rfl
  rw [e]
  unfold strike
  rw [Bool.and_eq_true, h.left j y hy]
  simp only [Bool.not_eq_true', decide_eq_false_iff_not, List.mem_append, List.mem_singleton, not_or]
  constructor
  · rintro ⟨⟨h1, h2⟩, h3⟩
    exact ⟨h1, h2, fun e => h3 (by omega)⟩
  · rintro ⟨h1, h2, h3⟩
    exact ⟨⟨h1, h2⟩, fun e => h3 (by omega)⟩
theorem Kahn.zero_step (h : Kahn l N out all done p P) (k : Nat) : ∀ i ∈ all, cntTo l (strike p k) i = 0 := fun i hi => by
  have h0 := h.zero i hi
  apply cnt_zero
  intro j y hy he
  unfold strike
  cases hp : p j with
  | false => rfl
  | true => have := cnt_pos hy hp he; omega
/-- An arc goes; something else leads there still. -/
theorem Kahn.keep (h : Kahn l N out all ((outK l c).take q) p P) (hc : c ∉ out) (hq : (outK l c)[q]? = some (k : Int)) (hx : l[k]? = some x) (ht : x.2.1 = (t : Int)) (hn : cntTo l (strike p k) t ≠ 0) : Kahn l N out all ((outK l c).take (q + 1)) (strike p k) P := by
  obtain ⟨hp, h0, hta⟩ := h.arc_ hc hq hx ht
  refine ⟨h.left_step hq, fun y => ?_, h.nd, h.zero_step k⟩
  rw [h.mem]
  constructor
  · rintro ⟨j, e, h1, h2, h3⟩
    refine ⟨j, e, h1, h2, ?_⟩
    rw [cnt_miss hx (fun e2 => by have : j = t := (by omega); subst this; omega)]
    exact h3
  · rintro ⟨j, e, h1, h2, h3⟩
    refine ⟨j, e, h1, h2, ?_⟩
    rw [cnt_miss hx (fun e2 => by have : j = t := (by omega); subst this; exact hn h3)] at h3
    exact h3
/-- An arc goes; it was the last one that led there. -/
theorem Kahn.give (h : Kahn l N out all ((outK l c).take q) p P) (hc : c ∉ out) (hq : (outK l c)[q]? = some (k : Int)) (hx : l[k]? = some x) (ht : x.2.1 = (t : Int)) (htN : t < N) (hn : cntTo l (strike p k) t = 0) : Kahn l N out all ((outK l c).take (q + 1)) (strike p k) (((t : Int), (t : Int)) :: P) := by
  obtain ⟨hp, h0, hta⟩ := h.arc_ hc hq hx ht
  have hmiss : ∀ j : Nat, j ≠ t → cntTo l (strike p k) j = cntTo l p j := fun j hj => cnt_miss hx (fun e2 => hj (by omega))
  refine ⟨h.left_step hq, fun y => ?_, List.nodup_cons.2 ⟨fun hm => ?_, h.nd⟩, h.zero_step k⟩
  · rw [List.mem_cons, h.mem]
    constructor
    · rintro (e | ⟨j, e, h1, h2, h3⟩)
      · exact ⟨t, e, htN, hta, hn⟩
      · exact ⟨j, e, h1, h2, by rw [hmiss j (fun e2 => by subst e2; omega)]; exact h3⟩
    · rintro ⟨j, e, h1, h2, h3⟩
      by_cases e2 : j = t
      · subst e2; exact .inl e
      · exact .inr ⟨j, e, h1, h2, by rw [← hmiss j e2]; exact h3⟩
  · obtain ⟨j, e, _, _, h3⟩ := (h.mem _).1 hm
    have e1 := congrArg Prod.fst e
    simp at e1
    have : t = j := by omega
    subst this
    omega
theorem Kahn.done_ (h : Kahn l N out (out ++ [c]) ((outK l c).take q) p P) (hq : (outK l c).length ≤ q) : Kahn l N (out ++ [c]) (out ++ [c]) [] p P := by
  rw [List.take_of_length_le hq] at h
  refine ⟨fun k x hx => ?_, h.mem, h.nd, h.zero⟩
  rw [h.left k x hx, mem_outK]
  simp only [List.not_mem_nil, not_false_eq_true, and_true]
  constructor
  · rintro ⟨h1, h2⟩ f hf
    simp at hf
    rcases hf with hf | hf
    · exact h1 f hf
    · subst hf; exact fun e => h2 ⟨k, x, rfl, hx, e⟩
  · intro h1
    refine ⟨fun f hf => h1 f (by simp [hf]), fun ⟨k2, x2, e1, e2, e3⟩ => ?_⟩
    have : k = k2 := by omega
    subst this
    rw [hx] at e2
    cases e2
    exact h1 c (by simp) e3
theorem Kahn.end_ (h : Kahn l N out out [] p []) (hs : Seq l N out) : Whole l N out ∨ Stuck l N out := by
  have hl := hs.le
  by_cases e : out.length = N
  · exact .inl ⟨hs, e⟩
  · exact .inr ⟨hs, by omega, fun j hj hf => by have := (h.free hj).2 hf; cases this⟩
theorem Kahn.len (h : Kahn l N out all done p P) : P.length ≤ N := by
  have h1 := nodup_le N (P.map (fun y => y.1.toNat)) (by
    unfold List.Nodup
    rw [List.pairwise_map]
    refine h.nd.imp_of_mem (fun {a b} ha hb hne e => hne ?_)
    obtain ⟨i, e1, _⟩ := (h.mem a).1 ha
    obtain ⟨j, e2, _⟩ := (h.mem b).1 hb
    rw [e1, e2] at e
    simp at e
    rw [e1, e2, e]) (fun i hi => by
    rw [List.mem_map] at hi
    obtain ⟨y, hy, e⟩ := hi
    obtain ⟨j, e1, h1, _⟩ := (h.mem y).1 hy
    rw [e1] at e
    simp at e
    omega)
  simpa using h1.1
end part
section part
open Go.RowKit

variable {wa wr w2 w4 : World} {wb N pb xb g' cap' t len k : Nat} {wt wt2 : Nat → Int} {pv pv' lv lv' : Value} {P P' : List It} {ws : List Int} {X Y u : Int} {S : Nat → Prop} {l : List Ar} {x : Ar} {out : List Nat} {p : Nat → Bool}
/-- Of the first k arcs, how many lead to i. -/
def inTo (l : List Ar) (k i : Nat) : Nat := ((List.range k).filter (fun j => decide ((l.getD j (0, 0, 0)).2.1 = (i : Int)))).length
theorem inTo_step (hx : l[k]? = some x) (ht : x.2.1 = (t : Int)) (i : Nat) : ((inTo l (k + 1) i : Nat) : Int) = if i = t then (inTo l k t : Int) + 1 else (inTo l k i : Int) := by
  unfold inTo
  rw [List.range_succ, List.filter_append, List.length_append]
  by_cases e : i = t
  · subst e
    simp [List.getD, hx, ht]
  · rw [if_neg e]
    have : x.2.1 ≠ (i : Int) := fun h => e (by omega)
    simp [List.getD, hx, this]
theorem inTo_all (l : List Ar) (i : Nat) : inTo l l.length i = cntTo l (fun _ => true) i := by
  unfold inTo cntTo
  congr 2
theorem inTo_le (l : List Ar) (k i : Nat) : inTo l k i ≤ k := by
  unfold inTo
  exact Nat.le_trans (List.length_filter_le _ _) (by simp)

/-- The counts alone. -/
structure CW (wa wr : World) (wb N : Nat) (wt : Nat → Int) : Prop where
  below : Below wa.heap.size wa wr
  wait : wr.rowIs wb 3 N (fun i => .int .i64 (wt i))
  base : wa.heap.size = wb
theorem CW.later (h : CW wa wr wb N wt) (hb : Below wr.heap.size wr w2) : CW wa w2 wb N wt := ⟨h.below.trans (hb.mono h.below.size), rowIs_below h.wait hb, h.base⟩
theorem wait_set (h : wr.rowIs wb 3 N (fun i => .int .i64 (wt i))) (t : Nat) (u : Int) : (wr.setCell ⟨wb, t, none⟩ (.int .i64 u)).rowIs wb 3 N (fun i => .int .i64 (if i = t then u else wt i)) :=
  (h.set t (.int .i64 u)).congr (fun i _ => by by_cases e : i = t <;> simp [e])
theorem CW.set_ (h : CW wa wr wb N wt) (t : Nat) (u : Int) : CW wa (wr.setCell ⟨wb, t, none⟩ (.int .i64 u)) wb N (fun i => if i = t then u else wt i) :=
  ⟨h.below.setCell (p := ⟨wb, t, none⟩) (by rw [h.base]; exact Nat.le_refl _) _, wait_set h.wait t u, h.base⟩
theorem CW.congr (h : CW wa wr wb N wt) (e : ∀ i, i < N → wt i = wt2 i) : CW wa wr wb N wt2 := ⟨h.below, h.wait.congr (fun i hi => by rw [e i hi]), h.base⟩
theorem CW.start (wa : World) (N : Nat) (l : List Ar) : CW wa (wa.alloc (.cells (madeCells #[.int .i64 0] N) 3)) wa.heap.size N (fun i => (inTo l 0 i : Int)) :=
  ⟨(Below.refl _ _).alloc (Nat.le_refl _) _, (World.rowIs_made _ _ _ _).congr (fun i _ => by simp [inTo]), rfl⟩

/-- The counts lie in block wb; behind it the pile, and the row that grows. -/
structure SW (wa wr : World) (wb N : Nat) (wt : Nat → Int) (pb : Nat) (pv : Value) (P : List It) (lv : Value) (ws : List Int) : Prop where
  wait : wr.rowIs wb 3 N (fun i => .int .i64 (wt i))
  base : wa.heap.size = wb
  pile : Have wa pb pv P wr
  far1 : wb < pb
  far2 : ∀ k, pv.ownBlock = some k → wb < k
  row : wr.ownsRow (wb + 1) 3 1 lv ws.length (numsV ws)
  apart : ∀ k, lv.ownBlock = some k → k ≠ pb ∧ pv.ownBlock ≠ some k
theorem SW.kept (h : SW wa wr wb N wt pb pv P lv ws) (hm : Mod S wr w2) (h1 : ¬ S wb) (h2 : ¬ S pb) (h3 : ∀ k, pv.ownBlock = some k → ¬ S k) (h4 : ∀ k, lv.ownBlock = some k → ¬ S k) (h0 : ∀ k, S k → wb ≤ k) : SW wa w2 wb N wt pb pv P lv ws :=
  ⟨h.wait.of_block (hm.block wb h.wait.lt h1), h.base, h.pile.kept hm h2 h3 (fun k hk => by rw [h.base]; exact h0 k hk), h.far1, h.far2, owns_kept h.row hm h4, h.apart⟩
theorem SW.later (h : SW wa wr wb N wt pb pv P lv ws) (hb : Below wr.heap.size wr w2) : SW wa w2 wb N wt pb pv P lv ws :=
  h.kept (Mod.of_below (fun _ => False) hb) (fun h => h) (fun h => h) (fun _ _ h => h) (fun _ _ h => h) (fun _ h => h.elim)
theorem SW.set_ (h : SW wa wr wb N wt pb pv P lv ws) (t : Nat) (u : Int) : SW wa (wr.setCell ⟨wb, t, none⟩ (.int .i64 u)) wb N (fun i => if i = t then u else wt i) pb pv P lv ws := by
  have hm : Mod (fun k => k = wb) wr (wr.setCell ⟨wb, t, none⟩ (.int .i64 u)) := (Mod.refl (fun k => k = wb) wr).setCell (p := ⟨wb, t, none⟩) (.inr rfl) _
  have h1 := h.far1
  refine ⟨wait_set h.wait t u, h.base, h.pile.kept hm (by omega) (fun k hk e => by have := h.far2 k hk; omega) (fun k hk => by rw [h.base]; omega), h.far1, h.far2, owns_kept h.row hm (fun k hk e => by have := (World.ownsRow.lt h.row k hk).1; omega), h.apart⟩
theorem SW.congr (h : SW wa wr wb N wt pb pv P lv ws) (e : ∀ i, i < N → wt i = wt2 i) : SW wa wr wb N wt2 pb pv P lv ws :=
  ⟨h.wait.congr (fun i hi => by rw [e i hi]), h.base, h.pile, h.far1, h.far2, h.row, h.apart⟩
theorem SW.piled (h : SW wa wr wb N wt pb pv P lv ws) (hP : Have wa pb pv' P' w2) (ht : Turned pb pv pv' wr w2) : SW wa w2 wb N wt pb pv' P' lv ws := by
  have hwl := h.wait.lt
  refine ⟨h.wait.of_block (ht.mod.block wb hwl ?_), h.base, hP, h.far1, fun k hk => ?_, owns_kept h.row ht.mod (fun k hk hs => ?_), fun k hk => ⟨(h.apart k hk).1, ?_⟩⟩
  · rintro (e | e)
    · have := h.far1; omega
    · have := h.far2 _ e; omega
  · rcases ht.fresh with hf | ⟨g, hf, hg⟩
    · rw [hf] at hk; exact h.far2 k hk
    · rw [hf] at hk; injection hk with e; omega
  · rcases hs with hs | hs
    · exact (h.apart k hk).1 hs
    · exact (h.apart k hk).2 hs
  · have hlt := (World.ownsRow.lt h.row k hk).2
    rcases ht.fresh with hf | ⟨g, hf, hg⟩
    · rw [hf]; exact (h.apart k hk).2
    · rw [hf]; intro e; injection e with e; omega
theorem SW.rowed (h : SW wa wr wb N wt pb pv P lv ws) (hown : w4.ownsRow (wb + 1) 3 1 (.slice (some ⟨g', 0, none⟩) (ws.length + 1) cap') (ws.length + 1) (numsV ws ++ [.int .i64 u]))
    (hgrow : wr.grownBy w4 lv.ownBlock) (hfr : lv.ownBlock = some g' ∨ g' = wr.heap.size) : SW wa w4 wb N wt pb pv P (.slice (some ⟨g', 0, none⟩) (ws.length + 1) cap') (ws ++ [u]) := by
  have hm : Mod (fun k => lv.ownBlock = some k) wr w4 := (Mod.refl _ wr).grown hgrow (fun k e => .inr e)
  have hlt := World.ownsRow.lt h.row
  refine ⟨h.wait.of_block (hm.block wb h.wait.lt (fun e => by have := (hlt _ e).1; omega)), h.base, h.pile.kept hm (fun e => (h.apart pb e).1 rfl) (fun k hk e => (h.apart k e).2 hk) (fun k e => by have := (hlt k e).1; have := h.base; omega), h.far1, h.far2, ?_, fun k hk => ?_⟩
  · rw [List.length_append, numsV_snoc]
    exact hown
  · simp only [Value.ownBlock, Option.some.injEq] at hk
    subst hk
    rcases hfr with hf | hf
    · exact h.apart g' hf
    · have h1 := h.pile.lt
      refine ⟨by omega, fun e => ?_⟩
      have := (h.pile.own g' e).2
      omega
theorem SW.start (h : CW wa wr wb N wt) : SW wa (wr.alloc (.cells #[.slice none 0 0] 78)) wb N wt wr.heap.size (.slice none 0 0) [] (.slice none 0 0) [] :=
  ⟨h.wait.alloc _, h.base, Have.new h.below, h.wait.lt, fun k hk => by simp [Value.ownBlock] at hk, World.ownsRow_nil _ _ _ 1, fun k hk => by simp [Value.ownBlock] at hk⟩

/-- The thing of the round, in a block of its own. -/
structure XW (wr : World) (xb : Nat) (X Y : Int) (wb pb : Nat) (pv lv : Value) : Prop where
  blk : wr.heap[xb]? = some (.cells #[.int .i64 X, .int .i64 Y] 66 (0, 0))
  n1 : wb < xb
  n2 : xb ≠ pb
  n3 : pv.ownBlock ≠ some xb
  n4 : lv.ownBlock ≠ some xb
theorem XW.lt (h : XW wr xb X Y wb pb pv lv) : xb < wr.heap.size := (Array.getElem?_eq_some_iff.1 h.blk).1
theorem XW.c0 (h : XW wr xb X Y wb pb pv lv) : wr.cell? ⟨xb, 0, none⟩ = some (.int .i64 X) := by simp [World.cell?, h.blk]
theorem XW.c1 (h : XW wr xb X Y wb pb pv lv) : wr.cell? ⟨xb, 1, none⟩ = some (.int .i64 Y) := by simp [World.cell?, h.blk]
theorem XW.fz (h : XW wr xb X Y wb pb pv lv) (i : Nat) : wr.frozen? ⟨xb, i, none⟩ = false := by simp [World.frozen?, h.blk]
theorem XW.mod (h : XW wr xb X Y wb pb pv lv) (hm : Mod S wr w2) (hs : ¬ S xb) (h3 : pv'.ownBlock ≠ some xb) (h4 : lv'.ownBlock ≠ some xb) : XW w2 xb X Y wb pb pv' lv' :=
  ⟨(hm.block xb h.lt hs).trans h.blk, h.n1, h.n2, h3, h4⟩
theorem XW.later (h : XW wr xb X Y wb pb pv lv) (hb : Below wr.heap.size wr w2) : XW w2 xb X Y wb pb pv lv := h.mod (Mod.of_below (fun _ => False) hb) (fun h => h) h.n3 h.n4
theorem XW.set_ (h : XW wr xb X Y wb pb pv lv) (t : Nat) (v : Value) : XW (wr.setCell ⟨wb, t, none⟩ v) xb X Y wb pb pv lv :=
  h.mod ((Mod.refl (fun k => k = wb) wr).setCell (p := ⟨wb, t, none⟩) (.inr rfl) v) (by have := h.n1; omega) h.n3 h.n4
theorem XW.piled (h : XW wr xb X Y wb pb pv lv) (ht : Turned pb pv pv' wr w2) : XW w2 xb X Y wb pb pv' lv := by
  refine h.mod ht.mod ?_ ?_ h.n4
  · rintro (e | e)
    · exact h.n2 e
    · exact h.n3 e
  · rcases ht.fresh with hf | ⟨g, hf, hg⟩
    · rw [hf]; exact h.n3
    · rw [hf]; intro e; injection e with e; have := h.lt; omega
theorem XW.rowed (h : XW wr xb X Y wb pb pv lv) (hgrow : wr.grownBy w4 lv.ownBlock) (hfr : lv.ownBlock = some g' ∨ g' = wr.heap.size) {m : Nat} : XW w4 xb X Y wb pb pv (.slice (some ⟨g', 0, none⟩) m cap') := by
  have hm : Mod (fun k => lv.ownBlock = some k) wr w4 := (Mod.refl _ wr).grown hgrow (fun k e => .inr e)
  refine h.mod hm h.n4 h.n3 (fun e => ?_)
  simp only [Value.ownBlock, Option.some.injEq] at e
  subst e
  rcases hfr with hf | hf
  · exact h.n4 hf
  · have := h.lt; omega
/-- A new thing. -/
theorem SW.thing (h : SW wa wr wb N wt pb pv P lv ws) (X Y : Int) : SW wa (wr.alloc (.cells #[.int .i64 X, .int .i64 Y] 66)) wb N wt pb pv P lv ws ∧ XW (wr.alloc (.cells #[.int .i64 X, .int .i64 Y] 66)) wr.heap.size X Y wb pb pv lv :=
  ⟨h.later ((Below.refl _ _).alloc (Nat.le_refl _) _), heap_alloc_new _ _, h.wait.lt, by have := h.pile.lt; omega, fun e => by have := (h.pile.own _ e).2; omega, fun e => by have := (World.ownsRow.lt h.row _ e).2; omega⟩
/-- The thing is another one now. -/
theorem SW.rething (h : SW wa wr wb N wt pb pv P lv ws) (hx : XW wr xb X Y wb pb pv lv) (X2 Y2 : Int) :
    SW wa ((wr.setCell ⟨xb, 0, none⟩ (.int .i64 X2)).setCell ⟨xb, 1, none⟩ (.int .i64 Y2)) wb N wt pb pv P lv ws ∧ XW ((wr.setCell ⟨xb, 0, none⟩ (.int .i64 X2)).setCell ⟨xb, 1, none⟩ (.int .i64 Y2)) xb X2 Y2 wb pb pv lv := by
  have hm : Mod (fun k => k = xb) wr ((wr.setCell ⟨xb, 0, none⟩ (.int .i64 X2)).setCell ⟨xb, 1, none⟩ (.int .i64 Y2)) :=
    ((Mod.refl (fun k => k = xb) wr).setCell (p := ⟨xb, 0, none⟩) (.inr rfl) _).setCell (p := ⟨xb, 1, none⟩) (.inr rfl) _
  have n1 := hx.n1
  have n2 := hx.n2
  refine ⟨h.kept hm (by omega) (fun e => n2 e.symm) (fun k hk e => hx.n3 (e ▸ hk)) (fun k hk e => hx.n4 (e ▸ hk)) (fun k hk => by omega), ?_, n1, n2, hx.n3, hx.n4⟩
  exact heap_setCell_same _ _ _ _ _ _ (heap_setCell_same _ _ _ _ _ _ hx.blk)

/-- What Take has told, and what is left. -/
def Pend (l : List Ar) (N : Nat) (out : List Nat) (p : Nat → Bool) (P : List It) (b : Bool) (X Y : Int) : Prop :=
  (b = true ∧ ∃ c : Nat, X = (c : Int) ∧ Y = (c : Int) ∧ c < N ∧ c ∉ out ∧ Seq l N (out ++ [c]) ∧ Kahn l N out (out ++ [c]) [] p P) ∨ (b = false ∧ (Whole l N out ∨ Stuck l N out))
theorem take_next (h : SW wa wr wb N wt pb pv P lv ws) (hk : Kahn l N out out [] p P) (hs : Seq l N out) (hN : N ≤ 1000) :
    Calls Try.prog 31 #[.pointer (some ⟨pb, 0, none⟩)] wr fun e w' => ∃ (X Y : Int) (b : Bool) (pv' : Value) (P' : List It), e = .returned (.tuple #[.agg #[.int .i64 X, .int .i64 Y], .bool b]) ∧ SW wa w' wb N wt pb pv' P' lv ws ∧ Turned pb pv pv' wr w' ∧ Pend l N out p P' b X Y := by
  by_cases h0 : P = []
  · subst h0
    refine (take_empty h.pile).mono ?_
    rintro e w' ⟨rfl, hb⟩
    exact ⟨0, 0, false, pv, [], rfl, h.later hb, ⟨Mod.of_below _ hb, .inl rfl⟩, .inr ⟨rfl, hk.end_ hs⟩⟩
  · refine (take_have h.pile (List.length_pos_iff.2 h0) (by have := hk.len; omega)).mono ?_
    rintro e w' ⟨y, P', rfl, hp, hm, pv', hP, ht⟩
    obtain ⟨c, rfl, hc, hco, hsq, hka⟩ := hk.take_ hs hp hm
    exact ⟨_, _, true, pv', P', rfl, h.piled hP ht, ht, .inl ⟨rfl, c, rfl, rfl, hc, hco, hsq, hka⟩⟩
end part
end Go.Proofs.Ytgoegkajfhhcjaa
