/- The nodes in order: each time the least one of those that may be next. (Plain mathematics; for layer 8.) -/
import Derived.Test.YtgoegkajfhhcjaaJoined
namespace Go.Proofs.Ytgoegkajfhhcjaa

/-- Node i may be next: it isn't out yet, all that lead to it are. -/
def Free (l : List Ar) (out : List Nat) (i : Nat) : Prop := i ∉ out ∧ ∀ x ∈ l, x.2.1 = (i : Int) → ∃ f : Nat, x.1 = (f : Int) ∧ f ∈ out
/-- Each is the least one of those that may be next. -/
inductive Seq (l : List Ar) (N : Nat) : List Nat → Prop
  | nil : Seq l N []
  | snoc {out : List Nat} {i : Nat} (h : Seq l N out) (hi : i < N) (hf : Free l out i) (hm : ∀ j, j < i → ¬ Free l out j) : Seq l N (out ++ [i])
/-- All nodes are out; none may be next. -/
def Whole (l : List Ar) (N : Nat) (out : List Nat) : Prop := Seq l N out ∧ out.length = N
def Stuck (l : List Ar) (N : Nat) (out : List Nat) : Prop := Seq l N out ∧ out.length < N ∧ ∀ j, j < N → ¬ Free l out j
variable {l : List Ar} {N i j : Nat} {out out2 : List Nat}
theorem Seq.back (h : Seq l N (out ++ [i])) : Seq l N out ∧ i < N ∧ Free l out i ∧ ∀ j, j < i → ¬ Free l out j := by
  generalize e : out ++ [i] = o at h
  cases h with
  | nil => simp at e
  | snoc h hi hf hm =>
    have e1 := List.append_inj_left' e rfl
    have e2 := List.append_inj_right' e rfl
    simp at e2
    subst e1 e2
    exact ⟨h, hi, hf, hm⟩
theorem Seq.take (h : Seq l N out) : ∀ k, Seq l N (out.take k) := by
  induction h with
  | nil => intro k; rw [List.take_nil]; exact .nil
  | snoc h hi hf hm ih =>
    rename_i o i
    intro k
    by_cases hk : k ≤ o.length
    · rw [List.take_append_of_le_length hk]; exact ih k
    · rw [List.take_of_length_le (by simp; omega)]; exact h.snoc hi hf hm
theorem Seq.unique (h : Seq l N out) : ∀ {out2 : List Nat}, Seq l N out2 → out.length = out2.length → out = out2 := by
  induction h with
  | nil => intro out2 _ e; exact (List.eq_nil_of_length_eq_zero e.symm).symm
  | snoc h hi hf hm ih =>
    rename_i o i
    intro out2 h2 e
    cases h2 with
    | nil => simp at e
    | snoc h3 hi3 hf3 hm3 =>
      rename_i o3 i3
      have e2 := ih h3 (by simpa using e)
      subst e2
      have : i = i3 := by
        by_cases q : i < i3
        · exact absurd hf (hm3 i q)
        · by_cases q2 : i3 < i
          · exact absurd hf3 (hm i3 q2)
          · omega
      rw [this]
theorem Seq.lt (h : Seq l N out) : ∀ i ∈ out, i < N := by
  induction h with
  | nil => intro i hi; cases hi
  | snoc h hi hf hm ih =>
    intro j hj
    simp at hj
    rcases hj with hj | hj
    · exact ih j hj
    · subst hj; exact hi
theorem Seq.nodup (h : Seq l N out) : out.Nodup := by
  induction h with
  | nil => exact List.nodup_nil
  | snoc h hi hf hm ih =>
    rw [List.nodup_append]
    refine ⟨ih, by simp, fun a ha b hb => ?_⟩
    simp at hb
    subst hb
    intro e
    subst e
    exact hf.1 ha
/-- A list without doubles of numbers below N has at most N of them; where it has N it has all. -/
theorem nodup_le : ∀ (N : Nat) (o : List Nat), o.Nodup → (∀ i ∈ o, i < N) → o.length ≤ N ∧ (o.length = N → ∀ i, i < N → i ∈ o)
  | 0, o, _, h => by
    have : o = [] := List.eq_nil_iff_forall_not_mem.2 (fun i hi => by have := h i hi; omega)
    subst this
    exact ⟨Nat.le_refl _, fun _ i hi => by omega⟩
  | N + 1, o, hn, h => by
    have hn2 : (o.erase N).Nodup := hn.erase N
    obtain ⟨h1, h2⟩ := nodup_le N (o.erase N) hn2 (fun i hi => by
      have hm := (hn.mem_erase_iff.1 hi)
      have := h i hm.2
      omega)
    by_cases hN : N ∈ o
    · have hl := List.length_erase_of_mem hN
      have hpos : 0 < o.length := List.length_pos_of_mem hN
      refine ⟨by omega, fun e i hi => ?_⟩
      by_cases e2 : i = N
      · subst e2; exact hN
      · exact List.mem_of_mem_erase (h2 (by omega) i (by omega))
    · rw [List.erase_of_not_mem hN] at h1 h2
      exact ⟨by omega, fun e => by omega⟩
theorem Seq.le (h : Seq l N out) : out.length ≤ N := (nodup_le N out h.nodup h.lt).1
theorem Whole.all (h : Whole l N out) (hi : i < N) : i ∈ out := (nodup_le N out h.1.nodup h.1.lt).2 h.2 i hi
theorem Whole.unique (h : Whole l N out) (h2 : Whole l N out2) : out = out2 := h.1.unique h2.1 (h.2.trans h2.2.symm)
/-- Not both. -/
theorem Stuck.not_whole (h : Stuck l N out) (h2 : Whole l N out2) : False := by
  have h3 := h2.1.take (out.length + 1)
  have hl : out.length < out2.length := by have := h2.2; have := h.2.1; omega
  rw [List.take_add_one, List.getElem?_eq_getElem hl] at h3
  rw [Option.toList_some] at h3
  obtain ⟨g1, g2, g3, _⟩ := h3.back
  have e := g1.unique h.1 (by rw [List.length_take]; omega)
  rw [e] at g3
  exact h.2.2 _ g2 g3
/-- Going on, one or the other. -/
theorem whole_or_stuck (l : List Ar) (N : Nat) : ∃ out, Whole l N out ∨ Stuck l N out := by
  have : ∀ m, m ≤ N → ∃ out, Seq l N out ∧ (out.length = m ∨ Stuck l N out) := fun m => by
    induction m with
    | zero => intro _; exact ⟨[], .nil, .inl rfl⟩
    | succ m ih =>
      intro hm
      obtain ⟨o, h1, h2⟩ := ih (by omega)
      rcases h2 with h2 | h2
      · by_cases hex : ∃ i, i < N ∧ Free l o i
        · obtain ⟨i, hi, hf⟩ := hex
          have hleast : ∃ k, (k < N ∧ Free l o k) ∧ ∀ j, j < k → ¬ (j < N ∧ Free l o j) := by
            clear ih h2
            induction i using Nat.strongRecOn with
            | _ i ih2 =>
              by_cases q : ∃ j, j < i ∧ Free l o j
              · obtain ⟨j, hj, hf2⟩ := q
                exact ih2 j hj (by omega) hf2
              · exact ⟨i, ⟨hi, hf⟩, fun j hj h => q ⟨j, hj, h.2⟩⟩
          obtain ⟨k, ⟨hk, hkf⟩, hkm⟩ := hleast
          exact ⟨o ++ [k], h1.snoc hk hkf (fun j hj hjf => hkm j hj ⟨by omega, hjf⟩), .inl (by simp [h2])⟩
        · exact ⟨o, h1, .inr ⟨h1, by omega, fun j hj hf => hex ⟨j, hj, hf⟩⟩⟩
      · exact ⟨o, h1, .inr h2⟩
  obtain ⟨o, h1, h2⟩ := this N (Nat.le_refl _)
  rcases h2 with h2 | h2
  · exact ⟨o, .inl ⟨h1, h2⟩⟩
  · exact ⟨o, .inr h2⟩

/-! ### Numbers behind each other -/
/-- Each is the greatest of its own number, and of those ahead of it with the arc's weight. -/
structure LateIs (l : List Ar) (N : Nat) (beg got : Nat → Int) : Prop where
  lo : ∀ i, i < N → beg i ≤ got i
  arc : ∀ x ∈ l, ∀ i j : Nat, x.1 = (i : Int) → x.2.1 = (j : Int) → got i + x.2.2 ≤ got j
  att : ∀ i, i < N → got i = beg i ∨ ∃ x ∈ l, ∃ f : Nat, x.1 = (f : Int) ∧ x.2.1 = (i : Int) ∧ got i = got f + x.2.2
variable {beg got got2 any : Nat → Int}
/-- Whatever keeps to the beginnings and the arcs is nowhere less. -/
theorem LateIs.least (h : LateIs l N beg got) (hw : Whole l N out) (hlo : ∀ i, i < N → beg i ≤ any i) (harc : ∀ x ∈ l, ∀ i j : Nat, x.1 = (i : Int) → x.2.1 = (j : Int) → any i + x.2.2 ≤ any j) :
    ∀ i, i < N → got i ≤ any i := by
  have : ∀ o, Seq l N o → ∀ i ∈ o, got i ≤ any i := fun o ho => by
    induction ho with
    | nil => intro i hi; cases hi
    | snoc hs hi hf hm ih =>
      rename_i o i
      intro j hj
      simp at hj
      rcases hj with hj | hj
      · exact ih j hj
      · subst hj
        rcases h.att j hi with e | ⟨x, hx, f, h1, h2, e⟩
        · have := hlo j hi; omega
        · obtain ⟨f', h3, h4⟩ := hf.2 x hx h2
          have : f = f' := by omega
          subst this
          have h5 := ih f h4
          have h6 := harc x hx f j h1 h2
          omega
  exact fun i hi => this out hw.1 i (hw.all hi)
theorem LateIs.unique (h : LateIs l N beg got) (h2 : LateIs l N beg got2) (hw : Whole l N out) (i : Nat) (hi : i < N) : got i = got2 i := by
  have h3 := h.least hw h2.lo h2.arc i hi
  have h4 := h2.least hw h.lo h.arc i hi
  omega
/-- Arcs from lesser nodes to greater ones alone. -/
def Forward (l : List Ar) : Prop := ∀ x ∈ l, ∃ i j : Nat, x.1 = (i : Int) ∧ x.2.1 = (j : Int) ∧ i < j
theorem Forward.whole (h : Forward l) (N : Nat) : Whole l N (List.range N) := by
  refine ⟨?_, by simp⟩
  induction N with
  | zero => exact .nil
  | succ n ih =>
    have up : ∀ o, Seq l n o → Seq l (n + 1) o := fun o ho => by
      induction ho with
      | nil => exact .nil
      | snoc _ hi hf hm ih => exact ih.snoc (by omega) hf hm
    rw [List.range_succ]
    refine (up _ ih).snoc (by omega) ⟨by simp, fun x hx e => ?_⟩ (fun j hj hf => hf.1 (by simpa using hj))
    obtain ⟨a, b, h1, h2, h3⟩ := h x hx
    exact ⟨a, h1, by simp; omega⟩
/-- Rounds over all arcs in place, where they lead forward: r rounds are done, and of the next one the first q arcs. -/
structure LateR (l : List Ar) (N : Nat) (beg cur : Nat → Int) (r q : Nat) : Prop where
  lo : ∀ i, i < N → beg i ≤ cur i
  att : ∀ i, i < N → cur i = beg i ∨ ∃ x ∈ l, ∃ f : Nat, x.1 = (f : Int) ∧ x.2.1 = (i : Int) ∧ cur i ≤ cur f + x.2.2
  arc : ∀ (k : Nat) (x : Ar) (i j : Nat), l[k]? = some x → x.1 = (i : Int) → x.2.1 = (j : Int) → (j ≤ r ∨ (j = r + 1 ∧ k < q)) → cur i + x.2.2 ≤ cur j
variable {cur : Nat → Int} {r q f t : Nat} {x : Ar}
theorem LateR.begin_ (hf : Forward l) (beg : Nat → Int) : LateR l N beg beg 0 0 := by
  refine ⟨fun i _ => Int.le_refl _, fun i _ => .inl rfl, fun k x i j hx h1 h2 h => ?_⟩
  obtain ⟨a, b, g1, g2, g3⟩ := hf x (List.mem_of_getElem? hx)
  omega
theorem LateR.next (h : LateR l N beg cur r q) (hq : l.length ≤ q) : LateR l N beg cur (r + 1) 0 := by
  refine ⟨h.lo, h.att, fun k x i j hx h1 h2 hj => h.arc k x i j hx h1 h2 ?_⟩
  have := (List.getElem?_eq_some_iff.1 hx).1
  omega
/-- An arc that makes nothing greater. -/
theorem LateR.skip (h : LateR l N beg cur r q) (hx : l[q]? = some x) (h1 : x.1 = (f : Int)) (h2 : x.2.1 = (t : Int)) (hle : cur f + x.2.2 ≤ cur t) : LateR l N beg cur r (q + 1) := by
  refine ⟨h.lo, h.att, fun k y i j hy g1 g2 hj => ?_⟩
  by_cases e : k = q
  · subst e
    rw [hx] at hy
    cases hy
    have a1 : i = f := by omega
    have a2 : j = t := by omega
    subst a1 a2
    exact hle
  · exact h.arc k y i j hy g1 g2 (by omega)
def setN (cur : Nat → Int) (t : Nat) (d : Int) : Nat → Int := fun j => if j = t then d else cur j
/-- An arc that does. -/
theorem LateR.take (h : LateR l N beg cur r q) (hfw : Forward l) (hx : l[q]? = some x) (h1 : x.1 = (f : Int)) (h2 : x.2.1 = (t : Int)) (hlt : cur t < cur f + x.2.2) : LateR l N beg (setN cur t (cur f + x.2.2)) r (q + 1) := by
  have hxl := List.mem_of_getElem? hx
  have up : ∀ i, cur i ≤ setN cur t (cur f + x.2.2) i := fun i => by
    unfold setN
    split
    · rename_i e; subst e; omega
    · exact Int.le_refl _
  have ne : ∀ i, i ≠ t → setN cur t (cur f + x.2.2) i = cur i := fun i hi => by simp [setN, hi]
  have at_ : setN cur t (cur f + x.2.2) t = cur f + x.2.2 := by simp [setN]
  obtain ⟨a, b, k1, k2, k3⟩ := hfw x hxl
  have hft : f < t := by omega
  have htr : ¬ t ≤ r := fun e => by have := h.arc q x f t hx h1 h2 (.inl e); omega
  refine ⟨fun i hi => Int.le_trans (h.lo i hi) (up i), fun i hi => ?_, fun k y i j hy g1 g2 hj => ?_⟩
  · by_cases e : i = t
    · subst e
      exact .inr ⟨x, hxl, f, h1, h2, by rw [at_, ne f (by omega)]; exact Int.le_refl _⟩
    · rw [ne i e]
      rcases h.att i hi with h3 | ⟨y, hy, f2, g1, g2, g3⟩
      · exact .inl h3
      · exact .inr ⟨y, hy, f2, g1, g2, by have := up f2; omega⟩
  · obtain ⟨a2, b2, m1, m2, m3⟩ := hfw y (List.mem_of_getElem? hy)
    have hit : i ≠ t := by omega
    rw [ne i hit]
    by_cases e : k = q
    · subst e
      rw [hx] at hy
      cases hy
      have q1 : i = f := by omega
      have q2 : j = t := by omega
      subst q1 q2
      rw [at_]
      exact Int.le_refl _
    · exact Int.le_trans (h.arc k y i j hy g1 g2 (by omega)) (up j)
/-- As many rounds as there are nodes: all arcs are kept to. -/
theorem LateR.kept (h : LateR l N beg cur r 0) (hok : ∀ x ∈ l, okA (N : Int) x = true) (hr : N ≤ r + 1) : ∀ x ∈ l, ∀ i j : Nat, x.1 = (i : Int) → x.2.1 = (j : Int) → cur i + x.2.2 ≤ cur j := fun x hx i j h1 h2 => by
  obtain ⟨k, hk⟩ := List.getElem?_of_mem hx
  have := okA_true.1 (hok x hx)
  exact h.arc k x i j hk h1 h2 (.inl (by omega))
theorem LateR.done (h : LateR l N beg cur r 0) (hok : ∀ x ∈ l, okA (N : Int) x = true) (hr : N ≤ r + 1) : LateIs l N beg cur := by
  refine ⟨h.lo, h.kept hok hr, fun i hi => ?_⟩
  rcases h.att i hi with e | ⟨x, hx, f, h1, h2, h3⟩
  · exact .inl e
  · exact .inr ⟨x, hx, f, h1, h2, by have := h.kept hok hr x hx f i h1 h2; omega⟩
end Go.Proofs.Ytgoegkajfhhcjaa
