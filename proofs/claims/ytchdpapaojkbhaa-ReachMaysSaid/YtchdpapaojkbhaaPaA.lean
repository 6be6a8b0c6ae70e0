/- Joined: Falses, Path, Walk, LongsEq, Fars, IntRow. -/
import Derived.Test.YtchdpapaojkbhaaGrA
import Derived.Test.YtchdpapaojkbhaaBase1
import Derived.Deep.QuietTactic
import Derived.Deep.RegionHeld3
section
/- Marks of nodes: how many are not marked. (Plain mathematics.) -/
namespace Go.Proofs.Ytchdpapaojkbhaa

/-- How many of the first N are not marked. -/
def falses : Nat → (Nat → Bool) → Nat
  | 0, _ => 0
  | n + 1, c => falses n c + if c n then 0 else 1
def setC (c : Nat → Bool) (t : Nat) : Nat → Bool := fun j => if j = t then true else c j
theorem setC_same (c : Nat → Bool) (t : Nat) : setC c t t = true := by simp [setC]
theorem setC_mono {c : Nat → Bool} {t j : Nat} (h : c j = true) : setC c t j = true := by simp [setC, h]
theorem falses_past (c : Nat → Bool) (t : Nat) : ∀ n, n ≤ t → falses n (setC c t) = falses n c
  | 0, _ => rfl
  | n + 1, h => by
    rw [falses, falses, falses_past c t n (by omega)]
    simp [setC, show n ≠ t by omega]
theorem falses_set {c : Nat → Bool} {t : Nat} (hc : c t = false) : ∀ n, t < n → falses n (setC c t) + 1 = falses n c
  | 0, h => by omega
  | n + 1, h => by
    rw [falses, falses]
    by_cases e : n = t
    · subst e
      rw [falses_past c n n (Nat.le_refl _)]
      simp [setC, hc]
    · have := falses_set hc n (by omega)
      simp only [setC, e, if_false] at this ⊢
      omega
theorem falses_none : ∀ n, falses n (fun _ => false) = n
  | 0 => rfl
  | n + 1 => by rw [falses, falses_none n]; simp
end Go.Proofs.Ytchdpapaojkbhaa
end
section
/- Which nodes one comes to: by definition; a search over nodes; rounds over arcs. -/
namespace Go.Proofs.Ytchdpapaojkbhaa

/-- One comes from node s to this one, by arcs. -/
inductive Comes (l : List Ar) (s : Nat) : Nat → Prop
  | refl : Comes l s s
  | step {i j : Nat} {x : Ar} (h : Comes l s i) (hx : x ∈ l) (h1 : x.1 = (i : Int)) (h2 : x.2.1 = (j : Int)) : Comes l s j
variable {l : List Ar} {N s m p q : Nat} {c : Nat → Bool} {left r : List Int} {t : Int}
/-- This node is marked. -/
def Good (N : Nat) (c : Nat → Bool) (t : Int) : Prop := ∃ j : Nat, t = (j : Int) ∧ j < N ∧ c j = true
theorem Good.set_ {k : Nat} (h : Good N c t) : Good N (setC c k) t := by
  obtain ⟨j, h1, h2, h3⟩ := h
  exact ⟨j, h1, h2, setC_mono h3⟩
theorem mem_outs {i : Nat} : t ∈ outs l i ↔ ∃ x ∈ l, x.1 = (i : Int) ∧ x.2.1 = t := by
  simp [outs, and_assoc]

/-- A search: what is marked, what lies on the stack, and that no more than m rounds are left. -/
structure Dfs (l : List Ar) (N s : Nat) (c : Nat → Bool) (left : List Int) (m : Nat) : Prop where
  start : c s = true
  sound : ∀ i, i < N → c i = true → Comes l s i
  stack : ∀ x ∈ left, Good N c x
  closed : ∀ i : Nat, i < N → c i = true → (i : Int) ∈ left ∨ ∀ t ∈ outs l i, Good N c t
  few : falses N c + left.length ≤ m
/-- Within a round: node p is taken off, the first q of its arcs are done. -/
structure Inner (l : List Ar) (N s : Nat) (c : Nat → Bool) (left : List Int) (m p q : Nat) : Prop where
  lt : p < N
  here : c p = true
  start : c s = true
  sound : ∀ i, i < N → c i = true → Comes l s i
  stack : ∀ x ∈ left, Good N c x
  closed : ∀ i : Nat, i < N → c i = true → (i : Int) ∈ left ∨ (i = p ∧ ∀ t ∈ (outs l p).take q, Good N c t) ∨ ∀ t ∈ outs l i, Good N c t
  few : falses N c + left.length ≤ m
theorem Dfs.begin_ (hs : s < N) : Dfs l N s (setC (fun _ => false) s) [(s : Int)] N where
  start := setC_same _ _
  sound := fun i _ hc => by
    have : i = s := by
      by_cases e : i = s
      · exact e
      · simp [setC, e] at hc
    subst this
    exact .refl
  stack := fun x hx => by
    simp at hx
    subst hx
    exact ⟨s, rfl, hs, setC_same _ _⟩
  closed := fun i _ hc => by
    left
    by_cases e : i = s
    · simp [e]
    · simp [setC, e] at hc
  few := by
    have := falses_set (c := fun _ => false) (t := s) rfl N hs
    rw [falses_none] at this
    simp
    omega
theorem Dfs.pop {x : Int} (h : Dfs l N s c (r ++ [x]) m) : ∃ p m' : Nat, x = (p : Int) ∧ m = m' + 1 ∧ Inner l N s c r m' p 0 := by
  obtain ⟨p, rfl, hp, hc⟩ := h.stack x (by simp)
  have hf := h.few
  simp at hf
  refine ⟨p, m - 1, rfl, by omega, hp, hc, h.start, h.sound, fun y hy => h.stack y (by simp [hy]), fun i hi hci => ?_, by omega⟩
  rcases h.closed i hi hci with h1 | h1
  · simp at h1
    rcases h1 with h1 | h1
    · exact .inl h1
    · exact .inr (.inl ⟨by omega, by simp⟩)
  · exact .inr (.inr h1)
theorem Inner.skip (h : Inner l N s c left m p q) (hx : (outs l p)[q]? = some t) (hg : Good N c t) : Inner l N s c left m p (q + 1) := by
  refine ⟨h.lt, h.here, h.start, h.sound, h.stack, fun i hi hci => ?_, h.few⟩
  rcases h.closed i hi hci with h1 | ⟨h1, h2⟩ | h1
  · exact .inl h1
  · refine .inr (.inl ⟨h1, fun u hu => ?_⟩)
    rw [List.take_add_one, hx] at hu
    simp at hu
    rcases hu with hu | hu
    · exact h2 u hu
    · subst hu; exact hg
  · exact .inr (.inr h1)
theorem Inner.mark {k : Nat} (h : Inner l N s c left m p q) (hx : (outs l p)[q]? = some (k : Int)) (hk : k < N) (hc : c k = false) : Inner l N s (setC c k) (left ++ [(k : Int)]) m p (q + 1) := by
  refine ⟨h.lt, setC_mono h.here, setC_mono h.start, fun i hi hci => ?_, fun y hy => ?_, fun i hi hci => ?_, ?_⟩
  · by_cases e : i = k
    · subst e
      obtain ⟨x, hx1, hx2, hx3⟩ := mem_outs.1 (List.mem_of_getElem? hx)
      exact .step (h.sound p h.lt h.here) hx1 hx2 hx3
    · simp only [setC, e, if_false] at hci
      exact h.sound i hi hci
  · simp at hy
    rcases hy with hy | hy
    · exact (h.stack y hy).set_
    · exact ⟨k, hy, hk, setC_same _ _⟩
  · by_cases e : i = k
    · subst e; simp
    · simp only [setC, e, if_false] at hci
      rcases h.closed i hi hci with h1 | ⟨h1, h2⟩ | h1
      · exact .inl (by simp [h1])
      · refine .inr (.inl ⟨h1, fun u hu => ?_⟩)
        rw [List.take_add_one, hx] at hu
        simp at hu
        rcases hu with hu | hu
        · exact (h2 u hu).set_
        · exact ⟨k, hu, hk, setC_same _ _⟩
      · exact .inr (.inr fun u hu => (h1 u hu).set_)
  · have := falses_set hc N hk
    have := h.few
    simp
    omega
theorem Inner.done (h : Inner l N s c left m p q) (hq : (outs l p).length ≤ q) : Dfs l N s c left m := by
  refine ⟨h.start, h.sound, h.stack, fun i hi hci => ?_, h.few⟩
  rcases h.closed i hi hci with h1 | ⟨h1, h2⟩ | h1
  · exact .inl h1
  · subst h1
    rw [List.take_of_length_le hq] at h2
    exact .inr h2
  · exact .inr h1
theorem Inner.len (h : Inner l N s c left m p q) : left.length ≤ m := by have := h.few; omega
theorem comes_good (hs : s < N) (hst : c s = true) (hcl : ∀ i : Nat, i < N → c i = true → ∀ t ∈ outs l i, Good N c t) {i : Nat} (h : Comes l s i) : i < N ∧ c i = true := by
  induction h with
  | refl => exact ⟨hs, hst⟩
  | step _ hx h1 h2 ih =>
    rename_i i j x _
    obtain ⟨k, e, hk, hc⟩ := hcl i ih.1 ih.2 x.2.1 (mem_outs.2 ⟨x, hx, h1, rfl⟩)
    have : j = k := by omega
    subst this
    exact ⟨hk, hc⟩
theorem Dfs.done (h : Dfs l N s c [] m) (hs : s < N) {i : Nat} (hi : i < N) : c i = true ↔ Comes l s i := by
  refine ⟨h.sound i hi, fun hp => (comes_good hs h.start (fun j hj hcj => ?_) hp).2⟩
  rcases h.closed j hj hcj with h1 | h1
  · cases h1
  · exact h1

/-! ### Rounds over all arcs -/
/-- All of these arcs lead from a marked node to a marked one. -/
def Shut1 (l : List Ar) (c : Nat → Bool) : Prop := ∀ x ∈ l, c x.1.toNat = true → c x.2.1.toNat = true
/-- Behind r rounds. -/
structure Rounds (l : List Ar) (N s : Nat) (c : Nat → Bool) (r : Nat) : Prop where
  start : c s = true
  sound : ∀ i, i < N → c i = true → Comes l s i
  ends : Shut1 l c ∨ falses N c + r + 1 ≤ N
/-- Within round r: the first q arcs are done. -/
structure Pass (l : List Ar) (N s : Nat) (c : Nat → Bool) (r q : Nat) : Prop where
  start : c s = true
  sound : ∀ i, i < N → c i = true → Comes l s i
  ends : Shut1 l c ∨ (falses N c + r + 1 ≤ N ∧ Shut1 (l.take q) c) ∨ falses N c + r + 2 ≤ N
variable {rd f k : Nat} {x : Ar}
theorem Rounds.begin_ (hs : s < N) : Rounds l N s (setC (fun _ => false) s) 0 where
  start := setC_same _ _
  sound := (Dfs.begin_ hs).sound
  ends := by
    have := falses_set (c := fun _ => false) (t := s) rfl N hs
    rw [falses_none] at this
    right
    omega
theorem Rounds.pass (h : Rounds l N s c rd) : Pass l N s c rd 0 := by
  refine ⟨h.start, h.sound, ?_⟩
  rcases h.ends with h1 | h1
  · exact .inl h1
  · exact .inr (.inl ⟨h1, fun x hx => by simp at hx⟩)
theorem Pass.skip (h : Pass l N s c rd q) (hx : l[q]? = some x) (hb : c x.1.toNat = true → c x.2.1.toNat = true) : Pass l N s c rd (q + 1) := by
  refine ⟨h.start, h.sound, ?_⟩
  rcases h.ends with h1 | ⟨h1, h2⟩ | h1
  · exact .inl h1
  · refine .inr (.inl ⟨h1, fun y hy => ?_⟩)
    rw [List.take_add_one, hx] at hy
    simp at hy
    rcases hy with hy | hy
    · exact h2 y hy
    · subst hy; exact hb
  · exact .inr (.inr h1)
theorem Pass.mark (h : Pass l N s c rd q) (hx : l[q]? = some x) (h1 : x.1 = (f : Int)) (h2 : x.2.1 = (k : Int)) (hf : f < N) (hk : k < N) (hcf : c f = true) (hck : c k = false) : Pass l N s (setC c k) rd (q + 1) := by
  have hxl := List.mem_of_getElem? hx
  refine ⟨setC_mono h.start, fun i hi hci => ?_, ?_⟩
  · by_cases e : i = k
    · subst e
      exact .step (h.sound f hf hcf) hxl h1 h2
    · simp only [setC, e, if_false] at hci
      exact h.sound i hi hci
  · have := falses_set hck N hk
    rcases h.ends with h3 | ⟨h3, _⟩ | h3
    · have := h3 x hxl (by rw [h1]; simpa using hcf)
      rw [h2] at this
      simp [hck] at this
    · exact .inr (.inr (by omega))
    · exact .inr (.inr (by omega))
theorem Pass.done (h : Pass l N s c rd q) (hq : l.length ≤ q) : Rounds l N s c (rd + 1) := by
  refine ⟨h.start, h.sound, ?_⟩
  rcases h.ends with h1 | ⟨_, h1⟩ | h1
  · exact .inl h1
  · rw [List.take_of_length_le hq] at h1
    exact .inl h1
  · exact .inr (by omega)
theorem Rounds.done (h : Rounds l N s c N) (hs : s < N) (hok : ∀ x ∈ l, okA (N : Int) x = true) {i : Nat} (hi : i < N) : c i = true ↔ Comes l s i := by
  have hsh : Shut1 l c := by
    rcases h.ends with h1 | h1
    · exact h1
    · omega
  refine ⟨h.sound i hi, fun hp => (comes_good hs h.start (fun j hj hcj t ht => ?_) hp).2⟩
  obtain ⟨x, hx, h1, h2⟩ := mem_outs.1 ht
  have ho := okA_true.1 (hok x hx)
  have hc := hsh x hx (by rw [h1]; simpa using hcj)
  exact ⟨x.2.1.toNat, by omega, by omega, hc⟩
theorem outs_good (hok : ∀ x ∈ l, okA (N : Int) x = true) {i q : Nat} (h : (outs l i)[q]? = some t) : ∃ k : Nat, t = (k : Int) ∧ k < N := by
  obtain ⟨x, hx, _, h2⟩ := mem_outs.1 (List.mem_of_getElem? h)
  have ho := okA_true.1 (hok x hx)
  exact ⟨t.toNat, by omega, by omega⟩
end Go.Proofs.Ytchdpapaojkbhaa
end
section
/- Ways by arcs, what they weigh; the lightest ones; cycles below nothing. -/
namespace Go.Proofs.Ytchdpapaojkbhaa

/-- From node s one comes to this node, by k arcs that weigh d. -/
inductive Walk (l : List Ar) (s : Nat) : Nat → Nat → Int → Prop
  | nil : Walk l s s 0 0
  | snoc {i j k : Nat} {d : Int} {x : Ar} (h : Walk l s i k d) (hx : x ∈ l) (h1 : x.1 = (i : Int)) (h2 : x.2.1 = (j : Int)) : Walk l s j (k + 1) (d + x.2.2)
variable {l l2 : List Ar} {s i j k m N : Nat} {d e : Int} {x : Ar}
theorem Walk.turn (h : Walk l s i k d) (hk : k = m) (hd : d = e) : Walk l s i m e := by subst hk hd; exact h
theorem Walk.append (h : Walk l s i k d) (h2 : Walk l i j m e) : Walk l s j (k + m) (d + e) := by
  induction h2 with
  | nil => exact h.turn (by omega) (by omega)
  | snoc _ hx h1 h2 ih => exact (ih.snoc hx h1 h2).turn (by omega) (by omega)
theorem Walk.one (hx : x ∈ l) (h1 : x.1 = (i : Int)) (h2 : x.2.1 = (j : Int)) : Walk l i j 1 x.2.2 := (Walk.nil.snoc hx h1 h2).turn (by omega) (by omega)
theorem Walk.sub (h : Walk l s i k d) (hs : ∀ x ∈ l, x ∈ l2) : Walk l2 s i k d := by
  induction h with
  | nil => exact .nil
  | snoc _ hx h1 h2 ih => exact ih.snoc (hs _ hx) h1 h2
theorem Walk.comes (h : Walk l s i k d) : Comes l s i := by
  induction h with
  | nil => exact .refl
  | snoc _ hx h1 h2 ih => exact .step ih hx h1 h2
theorem Comes.walk (h : Comes l s i) : ∃ k d, Walk l s i k d := by
  induction h with
  | refl => exact ⟨0, 0, .nil⟩
  | step _ hx h1 h2 ih =>
    obtain ⟨k, d, hw⟩ := ih
    exact ⟨_, _, hw.snoc hx h1 h2⟩
theorem Walk.lt (hok : ∀ x ∈ l, okA (N : Int) x = true) (hs : s < N) (h : Walk l s i k d) : i < N := by
  induction h with
  | nil => exact hs
  | snoc _ hx h1 h2 ih =>
    have := okA_true.1 (hok _ hx)
    omega
/-- Light arcs make light ways. -/
theorem Walk.bound {W : Int} (hW : ∀ x ∈ l, -W ≤ x.2.2 ∧ x.2.2 ≤ W) (h : Walk l s i k d) : -((k : Int) * W) ≤ d ∧ d ≤ (k : Int) * W := by
  induction h with
  | nil => simp
  | snoc _ hx h1 h2 ih =>
    rename_i k d x _
    have := hW x hx
    have e : ((k + 1 : Nat) : Int) * W = (k : Int) * W + W := by rw [Int.natCast_add, Int.add_mul]; simp
    omega

/-- From s one comes to a cycle that weighs less than nothing. -/
def Neg (l : List Ar) (s : Nat) : Prop := ∃ i k d m e, Walk l s i k d ∧ Walk l i i m e ∧ e < 0
/-- .. at this node. -/
theorem Neg.intro (h : Walk l s i k d) (h2 : Walk l i i m e) (he : e < 0) : Neg l s := ⟨i, k, d, m, e, h, h2, he⟩

/-! ### Two of more places than there are nodes are the same -/
theorem pigeon : ∀ (n : Nat) (f : Nat → Nat), (∀ t, t ≤ n → f t < n) → ∃ a b, a < b ∧ b ≤ n ∧ f a = f b
  | 0, f, h => absurd (h 0 (Nat.le_refl 0)) (by omega)
  | n + 1, f, h => by
    by_cases hex : ∃ a, a ≤ n ∧ f a = f (n + 1)
    · obtain ⟨a, ha, he⟩ := hex
      exact ⟨a, n + 1, by omega, Nat.le_refl _, he⟩
    · have hne : ∀ a, a ≤ n → f a ≠ f (n + 1) := fun a ha he => hex ⟨a, ha, he⟩
      have hv := h (n + 1) (Nat.le_refl _)
      obtain ⟨a, b, hab, hb, he⟩ := pigeon n (fun t => if f t = n then f (n + 1) else f t) (fun t ht => by
        have h1 := h t (by omega)
        have h2 := hne t ht
        show (if f t = n then f (n + 1) else f t) < n
        by_cases e : f t = n
        · rw [if_pos e]; omega
        · rw [if_neg e]; omega)
      refine ⟨a, b, hab, by omega, ?_⟩
      have ha1 := hne a (by omega)
      have hb1 := hne b hb
      by_cases e1 : f a = n
      · by_cases e2 : f b = n
        · omega
        · rw [if_pos e1, if_neg e2] at he; exact absurd he.symm hb1
      · by_cases e2 : f b = n
        · rw [if_neg e1, if_pos e2] at he; exact absurd he ha1
        · rw [if_neg e1, if_neg e2] at he; exact he

/-- A way's nodes, and what it weighs up to each. -/
theorem Walk.trace (h : Walk l s i k d) : ∃ (v : Nat → Nat) (D : Nat → Int), v 0 = s ∧ v k = i ∧ D 0 = 0 ∧ D k = d ∧ ∀ a b, a ≤ b → b ≤ k → Walk l (v a) (v b) (b - a) (D b - D a) := by
  induction h with
  | nil => exact ⟨fun _ => s, fun _ => 0, rfl, rfl, rfl, rfl, fun a b _ h2 => Walk.nil.turn (by omega) (by simp)⟩
  | snoc _ hx h1 h2 ih =>
    rename_i i j k d x _
    obtain ⟨v, D, v0, vk, D0, Dk, hw⟩ := ih
    refine ⟨fun t => if t ≤ k then v t else j, fun t => if t ≤ k then D t else d + x.2.2, by simp [v0], if_neg (by omega), by simp [D0], if_neg (by omega), fun a b hab hb => ?_⟩
    by_cases hb2 : b ≤ k
    · simp only [hb2, if_true, show a ≤ k by omega]
      exact hw a b hab hb2
    · have hbk : b = k + 1 := by omega
      subst hbk
      by_cases ha : a ≤ k
      · simp only [ha, if_true, hb2, if_false]
        have := hw a k ha (Nat.le_refl _)
        rw [vk, Dk] at this
        exact (this.snoc hx h1 h2).turn (by omega) (by omega)
      · simp only [ha, if_false, hb2]
        exact Walk.nil.turn (by omega) (by omega)
/-- Where there is no cycle below nothing, a way by fewer arcs than there are nodes is as light. -/
theorem Walk.short (hok : ∀ x ∈ l, okA (N : Int) x = true) (hs : s < N) (hn : ¬ Neg l s) : ∀ (k : Nat) {i : Nat} {d : Int}, Walk l s i k d → ∃ k' d', k' < N ∧ d' ≤ d ∧ Walk l s i k' d' := by
  intro k
  induction k using Nat.strongRecOn with
  | _ k ih =>
    intro i d h
    by_cases hk : k < N
    · exact ⟨k, d, hk, Int.le_refl _, h⟩
    · obtain ⟨v, D, v0, vk, D0, Dk, hw⟩ := h.trace
      have hin : ∀ t, t ≤ N → v t < N := fun t ht => by
        have := hw 0 t (by omega) (by omega)
        rw [v0] at this
        exact this.lt hok hs
      obtain ⟨a, b, hab, hb, he⟩ := pigeon N v hin
      have w1 := hw 0 a (by omega) (by omega)
      have w2 := hw a b (by omega) (by omega)
      have w3 := hw b k (by omega) (by omega)
      rw [v0] at w1
      rw [← he] at w2 w3
      rw [vk] at w3
      have hc : ¬ D b - D a < 0 := fun hlt => hn (Neg.intro w1 w2 hlt)
      obtain ⟨k', d', h1, h2, h3⟩ := ih (a - 0 + (k - b)) (by omega) (w1.append w3)
      exact ⟨k', d', h1, by omega, h3⟩

/-! ### How far the nodes are -/
/-- What the lightest way to each node weighs; none, if there is none. -/
structure Dist (l : List Ar) (s : Nat) (far : Nat → Option Int) : Prop where
  att : ∀ i d, far i = some d → ∃ k, Walk l s i k d
  low : ∀ i k d, Walk l s i k d → ∃ d', far i = some d' ∧ d' ≤ d
variable {far far2 now next : Nat → Option Int}
theorem Dist.not_neg (h : Dist l s far) : ¬ Neg l s := by
  rintro ⟨i, k, d, m, e, h1, h2, h3⟩
  obtain ⟨d1, e1, _⟩ := h.low i k d h1
  obtain ⟨k2, hw⟩ := h.att i d1 e1
  obtain ⟨d2, e2, h4⟩ := h.low i _ _ (hw.append h2)
  rw [e1] at e2
  cases e2
  omega
theorem Dist.unique (h : Dist l s far) (h2 : Dist l s far2) (i : Nat) : far i = far2 i := by
  cases e1 : far i with
  | none =>
    cases e2 : far2 i with
    | none => rfl
    | some d =>
      obtain ⟨k, hw⟩ := h2.att i d e2
      obtain ⟨d', e3, _⟩ := h.low i k d hw
      rw [e1] at e3
      cases e3
  | some d =>
    obtain ⟨k, hw⟩ := h.att i d e1
    obtain ⟨d', e2, h3⟩ := h2.low i k d hw
    obtain ⟨k2, hw2⟩ := h2.att i d' e2
    obtain ⟨d'', e3, h4⟩ := h.low i k2 d' hw2
    rw [e1] at e3
    cases e3
    rw [e2, show d = d' by omega]
theorem Dist.start (h : Dist l s far) : far s = some 0 := by
  obtain ⟨d, e, hd⟩ := h.low s 0 0 .nil
  obtain ⟨k, hw⟩ := h.att s d e
  have hn := h.not_neg
  have : ¬ d < 0 := fun hlt => hn (Neg.intro .nil hw hlt)
  rw [e, show d = 0 by omega]
/-- No arc makes it nearer. -/
def Fixed (l : List Ar) (far : Nat → Option Int) : Prop := ∀ x ∈ l, ∀ i j : Nat, x.1 = (i : Int) → x.2.1 = (j : Int) → ∀ d, far i = some d → ∃ d', far j = some d' ∧ d' ≤ d + x.2.2
theorem Dist.fixed (h : Dist l s far) : Fixed l far := by
  intro x hx i j h1 h2 d hd
  obtain ⟨k, hw⟩ := h.att i d hd
  exact h.low j _ _ (hw.snoc hx h1 h2)
theorem Dist.of_fixed (ha : ∀ i d, far i = some d → ∃ k, Walk l s i k d) (h0 : ∃ d, far s = some d ∧ d ≤ 0) (hf : Fixed l far) : Dist l s far := by
  refine ⟨ha, fun i k d h => ?_⟩
  induction h with
  | nil => exact h0
  | snoc _ hx h1 h2 ih =>
    obtain ⟨d1, e1, h3⟩ := ih
    obtain ⟨d2, e2, h4⟩ := hf _ hx _ _ h1 h2 d1 e1
    exact ⟨d2, e2, by omega⟩
/-- By at most r arcs. -/
structure Near (l : List Ar) (s : Nat) (far : Nat → Option Int) (r : Nat) : Prop where
  att : ∀ i d, far i = some d → ∃ k, k ≤ r ∧ Walk l s i k d
  low : ∀ i k d, k ≤ r → Walk l s i k d → ∃ d', far i = some d' ∧ d' ≤ d
theorem Near.begin_ (l : List Ar) (s : Nat) : Near l s (fun i => if i = s then some 0 else none) 0 := by
  refine ⟨fun i d h => ?_, fun i k d hk h => ?_⟩
  · by_cases e : i = s
    · subst e
      simp at h
      subst h
      exact ⟨0, Nat.le_refl _, .nil⟩
    · simp [e] at h
  · cases h with
    | nil => exact ⟨0, by simp, Int.le_refl _⟩
    | snoc _ _ _ _ => omega
theorem Near.dist {r : Nat} (h : Near l s far r) (hok : ∀ x ∈ l, okA (N : Int) x = true) (hs : s < N) (hn : ¬ Neg l s) (hr : N ≤ r + 1) : Dist l s far := by
  refine ⟨fun i d e => ?_, fun i k d hw => ?_⟩
  · obtain ⟨k, _, hw⟩ := h.att i d e
    exact ⟨k, hw⟩
  · obtain ⟨k', d', h1, h2, h3⟩ := Walk.short hok hs hn k hw
    obtain ⟨d'', e, h4⟩ := h.low i k' d' (by omega) h3
    exact ⟨d'', e, by omega⟩
/-- Two rounds, one behind the other, that tell otherwise although there were as many as there are nodes: a cycle below nothing. -/
theorem Near.neg {r : Nat} (h : Near l s far r) (h2 : Near l s far2 (r + 1)) (hok : ∀ x ∈ l, okA (N : Int) x = true) (hs : s < N) (hr : N ≤ r + 1) (hne : ∃ i, far i ≠ far2 i) : Neg l s := by
  by_cases hn : Neg l s
  · exact hn
  · obtain ⟨i, hi⟩ := hne
    exact absurd ((h.dist hok hs hn hr).unique (h2.dist hok hs hn (by omega)) i) hi
/-- .. that tell the same: it is how far the nodes are. -/
theorem Near.same {r : Nat} (h : Near l s far r) (h2 : Near l s far2 (r + 1)) (he : ∀ i, far i = far2 i) : Dist l s far := by
  refine Dist.of_fixed (fun i d e => ?_) (h.low s 0 0 (by omega) .nil) (fun x hx i j h1 h3 d hd => ?_)
  · obtain ⟨k, _, hw⟩ := h.att i d e
    exact ⟨k, hw⟩
  · obtain ⟨k, hk, hw⟩ := h.att i d hd
    obtain ⟨d', e, h4⟩ := h2.low j _ _ (by omega) (hw.snoc hx h1 h3)
    exact ⟨d', by rw [he]; exact e, h4⟩

/-! ### One round over all arcs, out of what the round before told -/
/-- The nearer one of two. -/
def minO (a b : Option Int) : Option Int := match a, b with
  | none, b => b
  | some p, none => some p
  | some p, some q => some (if q < p then q else p)
/-- Within round r + 1: the first q arcs are done. -/
structure Mid (l : List Ar) (s : Nat) (now next : Nat → Option Int) (r q : Nat) : Prop where
  att : ∀ i d, next i = some d → ∃ k, k ≤ r + 1 ∧ Walk l s i k d
  mono : ∀ i d, now i = some d → ∃ d', next i = some d' ∧ d' ≤ d
  low : ∀ x ∈ l.take q, ∀ i j : Nat, x.1 = (i : Int) → x.2.1 = (j : Int) → ∀ d, now i = some d → ∃ d', next j = some d' ∧ d' ≤ d + x.2.2
theorem Near.mid {r : Nat} (h : Near l s now r) : Mid l s now now r 0 := by
  refine ⟨fun i d e => ?_, fun i d e => ⟨d, e, Int.le_refl _⟩, fun x hx => by simp at hx⟩
  obtain ⟨k, hk, hw⟩ := h.att i d e
  exact ⟨k, by omega, hw⟩
theorem Mid.done {r q : Nat} (h : Mid l s now next r q) (hn : Near l s now r) (hq : l.length ≤ q) : Near l s next (r + 1) := by
  refine ⟨h.att, fun i k d hk hw => ?_⟩
  cases hw with
  | nil =>
    obtain ⟨d1, e1, h1⟩ := hn.low s 0 0 (by omega) .nil
    obtain ⟨d2, e2, h2⟩ := h.mono s d1 e1
    exact ⟨d2, e2, by omega⟩
  | snoc hw hx h1 h2 =>
    obtain ⟨d1, e1, h3⟩ := hn.low _ _ _ (by omega) hw
    obtain ⟨d2, e2, h4⟩ := h.low _ (by rw [List.take_of_length_le hq]; exact hx) _ _ h1 h2 d1 e1
    exact ⟨d2, e2, by omega⟩
/-- An arc from a node that isn't come to yet. -/
theorem Mid.skip {r q : Nat} (h : Mid l s now next r q) (hx : l[q]? = some x) (h1 : x.1 = (i : Int)) (hn : now i = none) : Mid l s now next r (q + 1) := by
  refine ⟨h.att, h.mono, fun y hy i' j' e1 e2 d hd => ?_⟩
  rw [List.take_add_one, hx] at hy
  simp at hy
  rcases hy with hy | hy
  · exact h.low y hy i' j' e1 e2 d hd
  · subst hy
    have : i' = i := by omega
    subst this
    rw [hn] at hd
    cases hd
/-- An arc from one that is. -/
theorem Mid.step {r q : Nat} {p : Int} (h : Mid l s now next r q) (hnow : Near l s now r) (hx : l[q]? = some x) (h1 : x.1 = (i : Int)) (h2 : x.2.1 = (j : Int)) (hp : now i = some p) :
    Mid l s now (fun t => if t = j then minO (next j) (some (p + x.2.2)) else next t) r (q + 1) := by
  have hxl := List.mem_of_getElem? hx
  have nearer : ∀ t d, next t = some d → ∃ d', (if t = j then minO (next j) (some (p + x.2.2)) else next t) = some d' ∧ d' ≤ d := fun t d hd => by
    by_cases e : t = j
    · subst e
      rw [if_pos rfl, hd]
      refine ⟨_, rfl, ?_⟩
      split <;> omega
    · rw [if_neg e]; exact ⟨d, hd, Int.le_refl _⟩
  refine ⟨fun t d hd => ?_, fun t d hd => ?_, fun y hy i' j' e1 e2 d hd => ?_⟩
  · by_cases e : t = j
    · subst e
      simp only [if_true] at hd
      obtain ⟨k, hk, hw⟩ := hnow.att i p hp
      have hnew : ∃ k, k ≤ r + 1 ∧ Walk l s t k (p + x.2.2) := ⟨k + 1, by omega, hw.snoc hxl h1 h2⟩
      cases hnx : next t with
      | none =>
        rw [hnx] at hd
        simp only [minO, Option.some.injEq] at hd
        rw [← hd]; exact hnew
      | some c =>
        rw [hnx] at hd
        simp only [minO, Option.some.injEq] at hd
        split at hd
        · rw [← hd]; exact hnew
        · rw [← hd]; exact h.att t c hnx
    · simp only [e, if_false] at hd
      exact h.att t d hd
  · obtain ⟨d1, e1, h3⟩ := h.mono t d hd
    obtain ⟨d2, e2, h4⟩ := nearer t d1 e1
    exact ⟨d2, e2, by omega⟩
  · rw [List.take_add_one, hx] at hy
    simp at hy
    rcases hy with hy | hy
    · obtain ⟨d1, f1, h3⟩ := h.low y hy i' j' e1 e2 d hd
      obtain ⟨d2, f2, h4⟩ := nearer j' d1 f1
      exact ⟨d2, f2, by omega⟩
    · subst hy
      have a1 : i' = i := by omega
      have a2 : j' = j := by omega
      subst a1 a2
      rw [hp] at hd
      cases hd
      rw [if_pos rfl]
      cases hnx : next j' with
      | none => exact ⟨_, rfl, Int.le_refl _⟩
      | some c =>
        refine ⟨_, rfl, ?_⟩
        split <;> omega
end Go.Proofs.Ytchdpapaojkbhaa
end
section
/- slices.Equal of two rows of numbers (int64) of the call's own: whether they are the same. -/
namespace Go.Proofs.Ytchdpapaojkbhaa
open Go.RowKit

variable {w : World} {B C g1 g2 N c1 c2 : Nat} {f1 f2 : Nat → Int}
/-- Are the first N the same? -/
def sameN (f1 f2 : Nat → Int) : Nat → Bool
  | 0 => true
  | n + 1 => sameN f1 f2 n && decide (f1 n = f2 n)
theorem sameN_true : ∀ {n : Nat}, sameN f1 f2 n = true ↔ ∀ i, i < n → f1 i = f2 i
  | 0 => by simp [sameN]
  | n + 1 => by
    rw [sameN, Bool.and_eq_true, decide_eq_true_eq, sameN_true]
    constructor
    · intro h i hi
      by_cases e : i = n
      · subst e; exact h.2
      · exact h.1 i (by omega)
    · intro h
      exact ⟨fun i hi => h i (by omega), h n (by omega)⟩
theorem sameN_not {k n : Nat} (h : ¬ f1 k = f2 k) (hk : k < n) : sameN f1 f2 n = false := by
  cases e : sameN f1 f2 n with
  | false => rfl
  | true => exact absurd (sameN_true.1 e k hk) h
theorem ret_boolL {p q : Bool} (h : p = q) : Ending.returned (.bool p) = .returned (.bool q) := by rw [h]

set_option maxHeartbeats 1000000 in
theorem eqRows (h1 : LongRow w B (.slice (some ⟨g1, 0, none⟩) N c1) N f1) (h2 : LongRow w C (.slice (some ⟨g2, 0, none⟩) N c2) N f2) (hN : N ≤ 1000000) :
    Calls Try.prog 10 #[.slice (some ⟨g1, 0, none⟩) N c1, .slice (some ⟨g2, 0, none⟩) N c2] w fun e w' => e = .returned (.bool (sameN f1 f2 N)) ∧ Below w.heap.size w w' := by
  have H1 := Lib.hid h1
  have H2 := Lib.hid h2
  by_cases h0 : 0 < N
  · obtain ⟨hc1, hm1⟩ := h1.cap_ h0
    obtain ⟨hc2, hm2⟩ := h2.cap_ h0
    unfold maxLen at hm1 hm2
    clear h1 h2
    have HS0 : Hid (sameN f1 f2 0 = true) := Lib.hid rfl
    go_enter Try.func10, Try.ntmps10
    go_wp2_with fail
    go_loopw [13] (fun i wr => ∃ k m : Nat, i = .int .i64 k ∧ k ≤ N ∧ wr = w.drewN m ∧ Hid (sameN f1 f2 k = true)) (fun i _ => N - (intOf i).toNat)
    case atStart => exact ⟨0, 0, rfl, Nat.zero_le _, rfl, HS0⟩
    case round =>
      obtain ⟨k, m, rfl, hk, rfl, HS⟩ := hrel
      clear HS0
      by_cases hlt : k < N
      · have q1 := H1.out.cell hlt
        have q2 := H2.out.cell hlt
        by_cases he : f1 k = f2 k
        · have HT : Hid (sameN f1 f2 (k + 1) = true) := Lib.hid (by rw [sameN, HS.out, decide_eq_true he]; rfl)
          rw [← he] at q2
          clear he
          generalize f1 k = a at q1 q2
          go_wp2_with fail
          go_quiet (fail)
          go_wp2_with fail
          go_roundw
          case rel => exact ⟨k + 1, _, by go_num, by omega, rfl, HT⟩
          case measure => simp [intOf]; omega
        · have HT := Lib.hid (sameN_not he hlt)
          generalize f1 k = a at q1 he
          generalize f2 k = b at q2 he
          have he2 : (a != b) = true := by simpa using he
          clear he
          go_wp2_with fail
          go_quiet (fail)
          go_wp2_with fail
          go_ret
          exact ⟨ret_boolL HT.out.symm, by first | exact below_drewN (Below.refl _ _) _ | exact below_drewN (below_drewN (Below.refl _ _) _) _⟩
      · obtain rfl : k = N := by omega
        go_wp2_with fail
        go_ret
        exact ⟨ret_boolL HS.out.symm, below_drewN (Below.refl _ _) _⟩
  · obtain rfl : N = 0 := by omega
    clear h1 h2
    go_enter Try.func10, Try.ntmps10
    go_wp2_with fail
    refine wp_loop_rounds 1 ?_
    rw [rounds_succ]
    go_wp2_with fail
    go_ret
    exact ⟨rfl, Below.refl _ _⟩
end Go.Proofs.Ytchdpapaojkbhaa
end
section
/- How far the nodes are, by the law's own rounds: what lies in memory, what it means. -/
namespace Go.Proofs.Ytchdpapaojkbhaa
open Go.RowKit

/-- The number in memory: how far; 2 to the 60, where one doesn't come. -/
def valI (far : Nat → Option Int) (i : Nat) : Int := match far i with
  | some d => d
  | none => 1152921504606846976
variable {far far2 : Nat → Option Int} {l : List Ar} {s i N r q : Nat} {d p : Int}
theorem valI_some (h : far i = some d) : valI far i = d := by simp [valI, h]
theorem valI_none (h : far i = none) : valI far i = 1152921504606846976 := by simp [valI, h]
theorem okA_weight (hok : ∀ x ∈ l, okA (N : Int) x = true) : ∀ x ∈ l, -1099511627776 ≤ x.2.2 ∧ x.2.2 ≤ 1099511627776 := fun x hx => (okA_true.1 (hok x hx)).2.2
theorem walk_small {k : Nat} (hok : ∀ x ∈ l, okA (N : Int) x = true) (h : Walk l s i k d) (hk : k ≤ 1002) : -1102000000000000 ≤ d ∧ d ≤ 1102000000000000 := by
  have h1 := h.bound (okA_weight hok)
  have h2 : (k : Int) * 1099511627776 ≤ 1002 * 1099511627776 := Int.mul_le_mul_of_nonneg_right (by omega) (by omega)
  omega
/-- What is told is small. -/
def Small (far : Nat → Option Int) : Prop := ∀ i d, far i = some d → -1102000000000000 ≤ d ∧ d ≤ 1102000000000000
theorem Near.small (h : Near l s far r) (hok : ∀ x ∈ l, okA (N : Int) x = true) (hr : r ≤ 1002) : Small far := fun i d e => by
  obtain ⟨k, hk, hw⟩ := h.att i d e
  exact walk_small hok hw (by omega)
theorem Mid.small {now : Nat → Option Int} (h : Mid l s now far r q) (hok : ∀ x ∈ l, okA (N : Int) x = true) (hr : r ≤ 1001) : Small far := fun i d e => by
  obtain ⟨k, hk, hw⟩ := h.att i d e
  exact walk_small hok hw (by omega)
theorem Small.ne (h : Small far) (e : far i = some d) : valI far i ≠ 1152921504606846976 := by
  have := h i d e
  rw [valI_some e]
  omega
theorem valI_inj (h : Small far) (h2 : Small far2) (e : valI far i = valI far2 i) : far i = far2 i := by
  cases e1 : far i with
  | none =>
    cases e2 : far2 i with
    | none => rfl
    | some d =>
      rw [valI_none e1, valI_some e2] at e
      have := h2 i d e2
      omega
  | some d =>
    cases e2 : far2 i with
    | none =>
      rw [valI_some e1, valI_none e2] at e
      have := h i d e1
      omega
    | some d2 => rw [valI_some e1, valI_some e2] at e; rw [e]
theorem Near.past (h : Near l s far r) (hok : ∀ x ∈ l, okA (N : Int) x = true) (hs : s < N) (hi : ¬ i < N) : far i = none := by
  cases e : far i with
  | none => rfl
  | some d =>
    obtain ⟨k, _, hw⟩ := h.att i d e
    exact absurd (hw.lt hok hs) hi
/-- Two rounds that tell the same numbers. -/
theorem near_end (h : Near l s far r) (h2 : Near l s far2 (r + 1)) (hok : ∀ x ∈ l, okA (N : Int) x = true) (hs : s < N) (hr : r ≤ 1001) (he : sameN (valI far) (valI far2) N = true) : Dist l s far := by
  refine h.same h2 (fun i => ?_)
  by_cases hi : i < N
  · exact valI_inj (h.small hok (by omega)) (h2.small hok (by omega)) (sameN_true.1 he i hi)
  · rw [h.past hok hs hi, h2.past hok hs hi]
/-- .. that don't. -/
theorem near_on (h : Near l s far r) (h2 : Near l s far2 (r + 1)) (hok : ∀ x ∈ l, okA (N : Int) x = true) (hs : s < N) (he : sameN (valI far) (valI far2) N = false) (hr : N < r + 1) : Neg l s := by
  refine h.neg h2 hok hs (by omega) ?_
  have : ¬ ∀ i, i < N → valI far i = valI far2 i := fun hh => by rw [sameN_true.2 hh] at he; cases he
  obtain ⟨i, hi⟩ := Classical.not_forall.1 this
  refine ⟨i, fun e => hi (fun _ => ?_)⟩
  simp only [valI, e]
/-- The lesser one, in memory. -/
theorem minO_val {j : Nat} (hp : far2 i = some p) (hs : Small far2) (c : Int) (hc : -1099511627776 ≤ c ∧ c ≤ 1099511627776) (t : Nat) :
    (if t = j then (if p + c < valI far j then p + c else valI far j) else valI far t) = valI (fun t => if t = j then minO (far j) (some (p + c)) else far t) t := by
  have hb := hs i p hp
  by_cases e : t = j
  · subst e
    simp only [if_true]
    cases h : far t with
    | none =>
      rw [valI_none h, if_pos (by omega), valI_some (d := p + c) (by simp [minO])]
    | some d =>
      rw [valI_some h]
      by_cases hlt : p + c < d
      · rw [if_pos hlt, valI_some (d := p + c) (by simp [minO, hlt])]
      · rw [if_neg hlt, valI_some (d := d) (by simp [minO, hlt])]
  · rw [if_neg e]
    simp only [valI, e, if_false]

variable {w wr w2 : World} {a : Option Addr} {len cap g g1 g2 c1 c2 k : Nat} {v : Value} {f f2 : Nat → Int} {u : Int}
/-- The graph's box, and one row. -/
structure FarsW (w wr : World) (g N : Nat) (a : Option Addr) (len cap : Nat) (v : Value) (f : Nat → Int) : Prop where
  box : Box w wr g (N : Int) a len cap
  now : LongRow wr (g + 1) v N f
theorem FarsW.later (h : FarsW w wr g N a len cap v f) (hb : Below wr.heap.size wr w2) : FarsW w w2 g N a len cap v f := ⟨h.box.later hb, h.now.below hb⟩
theorem FarsW.set_ (h : FarsW w wr g N a len cap (.slice (some ⟨g1, 0, none⟩) N c1) f) (hk : k < N) (u : Int) : FarsW w (wr.setCell ⟨g1, k, none⟩ (.int .i64 u)) g N a len cap (.slice (some ⟨g1, 0, none⟩) N c1) (fun t => if t = k then u else f t) := by
  have h1 := h.now.base_.1
  have h2 := h.box.ge
  exact ⟨h.box.set_ (by omega) (by omega) _ _, h.now.set_ hk u⟩
theorem FarsW.congr (h : FarsW w wr g N a len cap v f) (e : ∀ i, i < N → f i = f2 i) : FarsW w wr g N a len cap v f2 := ⟨h.box, h.now.congr e⟩
theorem FarsW.made (h : Box w wr g (N : Int) a len cap) (hg : wr.heap.size = g1) (hN : N ≤ 1000000) : FarsW w (wr.alloc (.cells (madeCells #[.int .i64 0] N) 2)) g N a len cap (.slice (some ⟨g1, 0, none⟩) N N) (fun i => if i < 0 then 1152921504606846976 else 0) := by
  subst hg
  refine ⟨h.alloc _, ?_⟩
  have := World.ownsRow_lit (base := g + 1) (e := 2) (size := 1) wr (madeCells #[.int .i64 0] N) N h.lt (by unfold maxLen; omega) (by rw [size_madeCells]; omega)
  rw [toList_madeCells_one] at this
  have e : List.replicate N (Value.int .i64 0) = rowF N (fun i => if i < 0 then 1152921504606846976 else 0) := by
    simp only [Nat.not_lt_zero, if_false, rowF]
    rw [List.map_const', List.length_range]
  rw [e] at this
  exact this
/-- .. and a second row. -/
structure FarsI (w wr : World) (g N : Nat) (a : Option Addr) (len cap g1 c1 g2 c2 : Nat) (f f2 : Nat → Int) : Prop where
  one : FarsW w wr g N a len cap (.slice (some ⟨g1, 0, none⟩) N c1) f
  two : LongRow wr (g + 1) (.slice (some ⟨g2, 0, none⟩) N c2) N f2
  ne : g1 ≠ g2
theorem FarsI.later (h : FarsI w wr g N a len cap g1 c1 g2 c2 f f2) (hb : Below wr.heap.size wr w2) : FarsI w w2 g N a len cap g1 c1 g2 c2 f f2 := ⟨h.one.later hb, h.two.below hb, h.ne⟩
theorem FarsI.set_ (h : FarsI w wr g N a len cap g1 c1 g2 c2 f f2) (hk : k < N) (u : Int) : FarsI w (wr.setCell ⟨g2, k, none⟩ (.int .i64 u)) g N a len cap g1 c1 g2 c2 f (fun t => if t = k then u else f2 t) := by
  have h1 := h.two.base_.1
  have h2 := h.one.box.ge
  have h3 := h.ne
  have hm : Mod (fun b => b = g2) wr (wr.setCell ⟨g2, k, none⟩ (.int .i64 u)) := (Mod.refl (fun b => b = g2) wr).setCell (p := ⟨g2, k, none⟩) (.inr rfl) _
  refine ⟨⟨h.one.box.set_ (by omega) (by omega) _ _, h.one.now.kept hm (fun b hb e => ?_)⟩, h.two.set_ hk u, h3⟩
  cases hb
  exact h3 e
theorem FarsI.congr {f3 : Nat → Int} (h : FarsI w wr g N a len cap g1 c1 g2 c2 f f2) (e : ∀ i, i < N → f2 i = f3 i) : FarsI w wr g N a len cap g1 c1 g2 c2 f f3 := ⟨h.one, h.two.congr e, h.ne⟩
theorem FarsI.swap (h : FarsI w wr g N a len cap g1 c1 g2 c2 f f2) : FarsW w wr g N a len cap (.slice (some ⟨g2, 0, none⟩) N c2) f2 := ⟨h.one.box, h.two⟩
theorem FarsI.make (h : FarsW w wr g N a len cap (.slice (some ⟨g1, 0, none⟩) N c1) f) (hb : Below wr.heap.size wr w2) (hr : LongRow w2 wr.heap.size (.slice (some ⟨g2, 0, none⟩) N c2) N f2) : FarsI w w2 g N a len cap g1 c1 g2 c2 f f2 :=
  ⟨h.later hb, hr.rebase h.box.lt, by have h1 := h.now.base_.2; have h2 := hr.base_.1; omega⟩
/-- What the round's region reads that it doesn't write: the arc; how far its beginning is. -/
def FarS (ab g1 : Nat) (f t c p : Int) (j : Nat) (W : World) : Prop := W.cell? ⟨ab, 0, none⟩ = some (.int .i64 f) ∧ W.cell? ⟨ab, 1, none⟩ = some (.int .i64 t) ∧ W.cell? ⟨ab, 2, none⟩ = some (.int .i64 c) ∧ W.cell? ⟨g1, j, none⟩ = some (.int .i64 p) ∧ ab < W.heap.size ∧ g1 < W.heap.size
theorem FarS.mod {S : Nat → Prop} {ab j : Nat} {f t c p : Int} (h : FarS ab g1 f t c p j w) (hm : Mod S w w2) (h1 : ¬ S ab) (h2 : ¬ S g1) : FarS ab g1 f t c p j w2 :=
  ⟨(hm.cell (p := ⟨ab, 0, none⟩) h.2.2.2.2.1 h1).trans h.1, (hm.cell (p := ⟨ab, 1, none⟩) h.2.2.2.2.1 h1).trans h.2.1, (hm.cell (p := ⟨ab, 2, none⟩) h.2.2.2.2.1 h1).trans h.2.2.1, (hm.cell (p := ⟨g1, j, none⟩) h.2.2.2.2.2 h2).trans h.2.2.2.1, Nat.lt_of_lt_of_le h.2.2.2.2.1 hm.size, Nat.lt_of_lt_of_le h.2.2.2.2.2 hm.size⟩
theorem FarS.made {j : Nat} {p : Int} (hg : g1 < wr.heap.size) (hc : wr.cell? ⟨g1, j, none⟩ = some (.int .i64 p)) (f t c : Int) (T : TypeId) : FarS wr.heap.size g1 f t c p j (wr.alloc (.cells #[.int .i64 f, .int .i64 t, .int .i64 c] T)).drew := by
  refine ⟨by simp, by simp, by simp, ?_, by simp, by simp; omega⟩
  exact (World.cell?_alloc_past _ _ _ hg).trans hc
end Go.Proofs.Ytchdpapaojkbhaa
end
section
/- A row of a call's own, of numbers (int). -/
namespace Go.Proofs.Ytchdpapaojkbhaa
open Go.RowKit

variable {w w2 : World} {base N g cap i : Nat} {f : Nat → Int} {v : Value}
/-- The slice v is a row of the call's own, from block base on, of these N numbers (int). -/
def IntRow (w : World) (base : Nat) (v : Value) (N : Nat) (f : Nat → Int) : Prop := w.ownsRow base 3 1 v N (rowF N f)
theorem IntRow.cell (h : IntRow w base (.slice (some ⟨g, 0, none⟩) N cap) N f) (hi : i < N) : w.cell? ⟨g, i, none⟩ = some (.int .i64 (f i)) := by
  rw [World.ownsRow.cellAt h i (by omega)]
  exact rowF_get _ hi
theorem IntRow.frozen (h : IntRow w base (.slice (some ⟨g, 0, none⟩) N cap) N f) (i : Nat) : w.frozen? ⟨g, i, none⟩ = false := World.ownsRow.frozenAt h i
theorem IntRow.below (h : IntRow w base v N f) (hb : Below w.heap.size w w2) : IntRow w2 base v N f := owns_below h hb
theorem IntRow.some_ (h : IntRow w base v N f) (h0 : 0 < N) : ∃ g cap, v = .slice (some ⟨g, 0, none⟩) N cap ∧ base ≤ g ∧ g < w.heap.size ∧ N ≤ cap ∧ cap ≤ maxLen := owns_some h h0
end Go.Proofs.Ytchdpapaojkbhaa
end
