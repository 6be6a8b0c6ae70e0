/- Ways by arcs, what they weigh; the lightest ones; cycles below nothing. -/
import Derived.Test.YtmmhdjibigopfaaPath
namespace Go.Proofs.Ytmmhdjibigopfaa

/-- From node s one comes to this node, by k arcs that weigh d. -/
inductive Walk (l : List Ar) (s : Nat) : Nat → Nat → Int → Prop
  | nil : Walk l s s 0 0
  | snoc {i j k : Nat} {d : Int} {x : Ar} (h : Walk l s i k d) (hx : x ∈ l) (h1 : x.1 = (i : Int)) (h2 : x.2.1 = (j : Int)) : Walk l s j (k + 1) (d + x.2.2)
variable {l l2 : List Ar} {s i j k m N : Nat} {d e : Int} {x : Ar}
theorem Walk.turn (h : Walk l s i k d) (hk : k = m) (hd : d = e) : Walk l s i m e := by subst hk hd; exact h
theorem Walk.append (h : Walk l s i k d) (h2 : Walk l i j m e) : Walk l s j (k + m) (d + e) := by
  induction h2 with
  | nil => exact h.turn (by omega) (by omega)
  | snoc _ hx h1 h2 ih => exact (ih.snoc hx h1 h2).turn (by omega) (by omega)
theorem Walk.one (hx : x ∈ l) (h1 : x.1 = (i : Int)) (h2 : x.2.1 = (j : Int)) : Walk l i j 1 x.2.2 := (Walk.nil.snoc hx h1 h2).turn (by omega) (by omega)
theorem Walk.sub (h : Walk l s i k d) (hs : ∀ x ∈ l, x ∈ l2) : Walk l2 s i k d := by
  induction h with
  | nil => exact .nil
  | snoc _ hx h1 h2 ih => exact ih.snoc (hs _ hx) h1 h2
theorem Walk.comes (h : Walk l s i k d) : Comes l s i := by
  induction h with
  | nil => exact .refl
  | snoc _ hx h1 h2 ih => exact .step ih hx h1 h2
theorem Comes.walk (h : Comes l s i) : ∃ k d, Walk l s i k d := by
  induction h with
  | refl => exact ⟨0, 0, .nil⟩
  | step _ hx h1 h2 ih =>
    obtain ⟨k, d, hw⟩ := ih
    exact ⟨_, _, hw.snoc hx h1 h2⟩
theorem Walk.lt (hok : ∀ x ∈ l, okA (N : Int) x = true) (hs : s < N) (h : Walk l s i k d) : i < N := by
  induction h with
  | nil => exact hs
  | snoc _ hx h1 h2 ih =>
    have := okA_true.1 (hok _ hx)
    omega
/-- Light arcs make light ways. -/
theorem Walk.bound {W : Int} (hW : ∀ x ∈ l, -W ≤ x.2.2 ∧ x.2.2 ≤ W) (h : Walk l s i k d) : -((k : Int) * W) ≤ d ∧ d ≤ (k : Int) * W := by
  induction h with
  | nil => simp
  | snoc _ hx h1 h2 ih =>
    rename_i k d x _
    have := hW x hx
    have e : ((k + 1 : Nat) : Int) * W = (k : Int) * W + W := by rw [Int.natCast_add, Int.add_mul]; simp
    omega

/-- From s one comes to a cycle that weighs less than nothing. -/
def Neg (l : List Ar) (s : Nat) : Prop := ∃ i k d m e, Walk l s i k d ∧ Walk l i i m e ∧ e < 0
/-- .. at this node. -/
theorem Neg.intro (h : Walk l s i k d) (h2 : Walk l i i m e) (he : e < 0) : Neg l s := ⟨i, k, d, m, e, h, h2, he⟩

/-! ### Two of more places than there are nodes are the same -/
theorem pigeon : ∀ (n : Nat) (f : Nat → Nat), (∀ t, t ≤ n → f t < n) → ∃ a b, a < b ∧ b ≤ n ∧ f a = f b
  | 0, f, h => absurd (h 0 (Nat.le_refl 0)) (by omega)
  | n + 1, f, h => by
    by_cases hex : ∃ a, a ≤ n ∧ f a = f (n + 1)
    · obtain ⟨a, ha, he⟩ := hex
      exact ⟨a, n + 1, by omega, Nat.le_refl _, he⟩
    · have hne : ∀ a, a ≤ n → f a ≠ f (n + 1) := fun a ha he => hex ⟨a, ha, he⟩
      have hv := h (n + 1) (Nat.le_refl _)
      obtain ⟨a, b, hab, hb, he⟩ := pigeon n (fun t => if f t = n then f (n + 1) else f t) (fun t ht => by
        have h1 := h t (by omega)
        have h2 := hne t ht
        show (if f t = n then f (n + 1) else f t) < n
        by_cases e : f t = n
        · rw [if_pos e]; omega
        · rw [if_neg e]; omega)
      refine ⟨a, b, hab, by omega, ?_⟩
      have ha1 := hne a (by omega)
      have hb1 := hne b hb
      by_cases e1 : f a = n
      · by_cases e2 : f b = n
        · omega
        · rw [if_pos e1, if_neg e2] at he; exact absurd he.symm hb1
      · by_cases e2 : f b = n
        · rw [if_neg e1, if_pos e2] at he; exact absurd he ha1
        · rw [if_neg e1, if_neg e2] at he; exact he

/-- A way's nodes, and what it weighs up to each. -/
theorem Walk.trace (h : Walk l s i k d) : ∃ (v : Nat → Nat) (D : Nat → Int), v 0 = s ∧ v k = i ∧ D 0 = 0 ∧ D k = d ∧ ∀ a b, a ≤ b → b ≤ k → Walk l (v a) (v b) (b - a) (D b - D a) := by
  induction h with
  | nil => exact ⟨fun _ => s, fun _ => 0, rfl, rfl, rfl, rfl, fun a b _ h2 => Walk.nil.turn (by omega) (by simp)⟩
  | snoc _ hx h1 h2 ih =>
    rename_i i j k d x _
    obtain ⟨v, D, v0, vk, D0, Dk, hw⟩ := ih
    refine ⟨fun t => if t ≤ k then v t else j, fun t => if t ≤ k then D t else d + x.2.2, by simp [v0], if_neg (by omega), by simp [D0], if_neg (by omega), fun a b hab hb => ?_⟩
    by_cases hb2 : b ≤ k
    · simp only [hb2, if_true, show a ≤ k by omega]
      exact hw a b hab hb2
    · have hbk : b = k + 1 := by omega
      subst hbk
      by_cases ha : a ≤ k
      · simp only [ha, if_true, hb2, if_false]
        have := hw a k ha (Nat.le_refl _)
        rw [vk, Dk] at this
        exact (this.snoc hx h1 h2).turn (by omega) (by omega)
      · simp only [ha, if_false, hb2]
        exact Walk.nil.turn (by omega) (by omega)
/-- Where there is no cycle below nothing, a way by fewer arcs than there are nodes is as light. -/
theorem Walk.short (hok : ∀ x ∈ l, okA (N : Int) x = true) (hs : s < N) (hn : ¬ Neg l s) : ∀ (k : Nat) {i : Nat} {d : Int}, Walk l s i k d → ∃ k' d', k' < N ∧ d' ≤ d ∧ Walk l s i k' d' := by
  intro k
  induction k using Nat.strongRecOn with
  | _ k ih =>
    intro i d h
    by_cases hk : k < N
    · exact ⟨k, d, hk, Int.le_refl _, h⟩
    · obtain ⟨v, D, v0, vk, D0, Dk, hw⟩ := h.trace
      have hin : ∀ t, t ≤ N → v t < N := fun t ht => by
        have := hw 0 t (by omega) (by omega)
        rw [v0] at this
        exact this.lt hok hs
      obtain ⟨a, b, hab, hb, he⟩ := pigeon N v hin
      have w1 := hw 0 a (by omega) (by omega)
      have w2 := hw a b (by omega) (by omega)
      have w3 := hw b k (by omega) (by omega)
      rw [v0] at w1
      rw [← he] at w2 w3
      rw [vk] at w3
      have hc : ¬ D b - D a < 0 := fun hlt => hn (Neg.intro w1 w2 hlt)
      obtain ⟨k', d', h1, h2, h3⟩ := ih (a - 0 + (k - b)) (by omega) (w1.append w3)
      exact ⟨k', d', h1, by omega, h3⟩

/-! ### How far the nodes are -/
/-- What the lightest way to each node weighs; none, if there is none. -/
structure Dist (l : List Ar) (s : Nat) (far : Nat → Option Int) : Prop where
  att : ∀ i d, far i = some d → ∃ k, Walk l s i k d
  low : ∀ i k d, Walk l s i k d → ∃ d', far i = some d' ∧ d' ≤ d
variable {far far2 now next : Nat → Option Int}
theorem Dist.not_neg (h : Dist l s far) : ¬ Neg l s := by
  rintro ⟨i, k, d, m, e, h1, h2, h3⟩
  obtain ⟨d1, e1, _⟩ := h.low i k d h1
  obtain ⟨k2, hw⟩ := h.att i d1 e1
  obtain ⟨d2, e2, h4⟩ := h.low i _ _ (hw.append h2)
  rw [e1] at e2
  cases e2
  omega
theorem Dist.unique (h : Dist l s far) (h2 : Dist l s far2) (i : Nat) : far i = far2 i := by
  cases e1 : far i with
  | none =>
    cases e2 : far2 i with
    | none => rfl
    | some d =>
      obtain ⟨k, hw⟩ := h2.att i d e2
      obtain ⟨d', e3, _⟩ := h.low i k d hw
      rw [e1] at e3
      cases e3
  | some d =>
    obtain ⟨k, hw⟩ := h.att i d e1
    obtain ⟨d', e2, h3⟩ := h2.low i k d hw
    obtain ⟨k2, hw2⟩ := h2.att i d' e2
    obtain ⟨d'', e3, h4⟩ := h.low i k2 d' hw2
    rw [e1] at e3
    cases e3
    rw [e2, show d = d' by omega]
theorem Dist.start (h : Dist l s far) : far s = some 0 := by
  obtain ⟨d, e, hd⟩ := h.low s 0 0 .nil
  obtain ⟨k, hw⟩ := h.att s d e
  have hn := h.not_neg
  have : ¬ d < 0 := fun hlt => hn (Neg.intro .nil hw hlt)
  rw [e, show d = 0 by omega]
/-- No arc makes it nearer. -/
def Fixed (l : List Ar) (far : Nat → Option Int) : Prop := ∀ x ∈ l, ∀ i j : Nat, x.1 = (i : Int) → x.2.1 = (j : Int) → ∀ d, far i = some d → ∃ d', far j = some d' ∧ d' ≤ d + x.2.2
theorem Dist.fixed (h : Dist l s far) : Fixed l far := by
  intro x hx i j h1 h2 d hd
  obtain ⟨k, hw⟩ := h.att i d hd
  exact h.low j _ _ (hw.snoc hx h1 h2)
theorem Dist.of_fixed (ha : ∀ i d, far i = some d → ∃ k, Walk l s i k d) (h0 : ∃ d, far s = some d ∧ d ≤ 0) (hf : Fixed l far) : Dist l s far := by
  refine ⟨ha, fun i k d h => ?_⟩
  induction h with
  | nil => exact h0
  | snoc _ hx h1 h2 ih =>
    obtain ⟨d1, e1, h3⟩ := ih
    obtain ⟨d2, e2, h4⟩ := hf _ hx _ _ h1 h2 d1 e1
    exact ⟨d2, e2, by omega⟩
/-- By at most r arcs. -/
structure Near (l : List Ar) (s : Nat) (far : Nat → Option Int) (r : Nat) : Prop where
  att : ∀ i d, far i = some d → ∃ k, k ≤ r ∧ Walk l s i k d
  low : ∀ i k d, k ≤ r → Walk l s i k d → ∃ d', far i = some d' ∧ d' ≤ d
theorem Near.begin_ (l : List Ar) (s : Nat) : Near l s (fun i => if i = s then some 0 else none) 0 := by
  refine ⟨fun i d h => ?_, fun i k d hk h => ?_⟩
  · by_cases e : i = s
    · subst e
      simp at h
      subst h
      exact ⟨0, Nat.le_refl _, .nil⟩
    · simp [e] at h
  · cases h with
    | nil => exact ⟨0, by simp, Int.le_refl _⟩
    | snoc _ _ _ _ => omega
theorem Near.dist {r : Nat} (h : Near l s far r) (hok : ∀ x ∈ l, okA (N : Int) x = true) (hs : s < N) (hn : ¬ Neg l s) (hr : N ≤ r + 1) : Dist l s far := by
  refine ⟨fun i d e => ?_, fun i k d hw => ?_⟩
  · obtain ⟨k, _, hw⟩ := h.att i d e
    exact ⟨k, hw⟩
  · obtain ⟨k', d', h1, h2, h3⟩ := Walk.short hok hs hn k hw
    obtain ⟨d'', e, h4⟩ := h.low i k' d' (by omega) h3
    exact ⟨d'', e, by omega⟩
/-- Two rounds, one behind the other, that tell otherwise although there were as many as there are nodes: a cycle below nothing. -/
theorem Near.neg {r : Nat} (h : Near l s far r) (h2 : Near l s far2 (r + 1)) (hok : ∀ x ∈ l, okA (N : Int) x = true) (hs : s < N) (hr : N ≤ r + 1) (hne : ∃ i, far i ≠ far2 i) : Neg l s := by
  by_cases hn : Neg l s
  · exact hn
  · obtain ⟨i, hi⟩ := hne
    exact absurd ((h.dist hok hs hn hr).unique (h2.dist hok hs hn (by omega)) i) hi
/-- .. that tell the same: it is how far the nodes are. -/
theorem Near.same {r : Nat} (h : Near l s far r) (h2 : Near l s far2 (r + 1)) (he : ∀ i, far i = far2 i) : Dist l s far := by
  refine Dist.of_fixed (fun i d e => ?_) (h.low s 0 0 (by omega) .nil) (fun x hx i j h1 h3 d hd => ?_)
  · obtain ⟨k, _, hw⟩ := h.att i d e
    exact ⟨k, hw⟩
  · obtain ⟨k, hk, hw⟩ := h.att i d hd
    obtain ⟨d', e, h4⟩ := h2.low j _ _ (by omega) (hw.snoc hx h1 h3)
    exact ⟨d', by rw [he]; exact e, h4⟩

/-! ### One round over all arcs, out of what the round before told -/
/-- The nearer one of two. -/
def minO (a b : Option Int) : Option Int := match a, b with
  | none, b => b
  | some p, none => some p
  | some p, some q => some (if q < p then q else p)
/-- Within round r + 1: the first q arcs are done. -/
structure Mid (l : List Ar) (s : Nat) (now next : Nat → Option Int) (r q : Nat) : Prop where
  att : ∀ i d, next i = some d → ∃ k, k ≤ r + 1 ∧ Walk l s i k d
  mono : ∀ i d, now i = some d → ∃ d', next i = some d' ∧ d' ≤ d
  low : ∀ x ∈ l.take q, ∀ i j : Nat, x.1 = (i : Int) → x.2.1 = (j : Int) → ∀ d, now i = some d → ∃ d', next j = some d' ∧ d' ≤ d + x.2.2
theorem Near.mid {r : Nat} (h : Near l s now r) : Mid l s now now r 0 := by
  refine ⟨fun i d e => ?_, fun i d e => ⟨d, e, Int.le_refl _⟩, fun x hx => by simp at hx⟩
  obtain ⟨k, hk, hw⟩ := h.att i d e
  exact ⟨k, by omega, hw⟩
theorem Mid.done {r q : Nat} (h : Mid l s now next r q) (hn : Near l s now r) (hq : l.length ≤ q) : Near l s next (r + 1) := by
  refine ⟨h.att, fun i k d hk hw => ?_⟩
  cases hw with
  | nil =>
    obtain ⟨d1, e1, h1⟩ := hn.low s 0 0 (by omega) .nil
    obtain ⟨d2, e2, h2⟩ := h.mono s d1 e1
    exact ⟨d2, e2, by omega⟩
  | snoc hw hx h1 h2 =>
    obtain ⟨d1, e1, h3⟩ := hn.low _ _ _ (by omega) hw
    obtain ⟨d2, e2, h4⟩ := h.low _ (by rw [List.take_of_length_le hq]; exact hx) _ _ h1 h2 d1 e1
    exact ⟨d2, e2, by omega⟩
/-- An arc from a node that isn't come to yet. -/
theorem Mid.skip {r q : Nat} (h : Mid l s now next r q) (hx : l[q]? = some x) (h1 : x.1 = (i : Int)) (hn : now i = none) : Mid l s now next r (q + 1) := by
  refine ⟨h.att, h.mono, fun y hy i' j' e1 e2 d hd => ?_⟩
  rw [List.take_add_one, hx] at hy
  simp at hy
  rcases hy with hy | hy
  · exact h.low y hy i' j' e1 e2 d hd
  · subst hy
    have : i' = i := by omega
    subst this
    rw [hn] at hd
    cases hd
/-- An arc from one that is. -/
theorem Mid.step {r q : Nat} {p : Int} (h : Mid l s now next r q) (hnow : Near l s now r) (hx : l[q]? = some x) (h1 : x.1 = (i : Int)) (h2 : x.2.1 = (j : Int)) (hp : now i = some p) :
    Mid l s now (fun t => if t = j then minO (next j) (some (p + x.2.2)) else next t) r (q + 1) := by
  have hxl := List.mem_of_getElem? hx
  have nearer : ∀ t d, next t = some d → ∃ d', (if t = j then minO (next j) (some (p + x.2.2)) else next t) = some d' ∧ d' ≤ d := fun t d hd => by
    by_cases e : t = j
    · subst e
      rw [if_pos rfl, hd]
      refine ⟨_, rfl, ?_⟩
      split <;> omega
    · rw [if_neg e]; exact ⟨d, hd, Int.le_refl _⟩
  refine ⟨fun t d hd => ?_, fun t d hd => ?_, fun y hy i' j' e1 e2 d hd => ?_⟩
  · by_cases e : t = j
    · subst e
      simp only [if_true] at hd
      obtain ⟨k, hk, hw⟩ := hnow.att i p hp
      have hnew : ∃ k, k ≤ r + 1 ∧ Walk l s t k (p + x.2.2) := ⟨k + 1, by omega, hw.snoc hxl h1 h2⟩
      cases hnx : next t with
      | none =>
        rw [hnx] at hd
        simp only [minO, Option.some.injEq] at hd
        rw [← hd]; exact hnew
      | some c =>
        rw [hnx] at hd
        simp only [minO, Option.some.injEq] at hd
        split at hd
        · rw [← hd]; exact hnew
        · rw [← hd]; exact h.att t c hnx
    · simp only [e, if_false] at hd
      exact h.att t d hd
  · obtain ⟨d1, e1, h3⟩ := h.mono t d hd
    obtain ⟨d2, e2, h4⟩ := nearer t d1 e1
    exact ⟨d2, e2, by omega⟩
  · rw [List.take_add_one, hx] at hy
    simp at hy
    rcases hy with hy | hy
    · obtain ⟨d1, f1, h3⟩ := h.low y hy i' j' e1 e2 d hd
      obtain ⟨d2, f2, h4⟩ := nearer j' d1 f1
      exact ⟨d2, f2, by omega⟩
    · subst hy
      have a1 : i' = i := by omega
      have a2 : j' = j := by omega
      subst a1 a2
      rw [hp] at hd
      cases hd
      rw [if_pos rfl]
      cases hnx : next j' with
      | none => exact ⟨_, rfl, Int.le_refl _⟩
      | some c =>
        refine ⟨_, rfl, ?_⟩
        split <;> omega
end Go.Proofs.Ytmmhdjibigopfaa
