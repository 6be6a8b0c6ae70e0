/- Which nodes one comes to: by definition; a search over nodes; rounds over arcs. -/
import Derived.Test.YtmmhdjibigopfaaNext
namespace Go.Proofs.Ytmmhdjibigopfaa

/-- One comes from node s to this one, by arcs. -/
inductive Comes (l : List Ar) (s : Nat) : Nat → Prop
  | refl : Comes l s s
  | step {i j : Nat} {x : Ar} (h : Comes l s i) (hx : x ∈ l) (h1 : x.1 = (i : Int)) (h2 : x.2.1 = (j : Int)) : Comes l s j
/-- How many of the first N are not marked. -/
def falses : Nat → (Nat → Bool) → Nat
  | 0, _ => 0
  | n + 1, c => falses n c + if c n then 0 else 1
def setC (c : Nat → Bool) (t : Nat) : Nat → Bool := fun j => if j = t then true else c j
theorem setC_same (c : Nat → Bool) (t : Nat) : setC c t t = true := by simp [setC]
theorem setC_mono {c : Nat → Bool} {t j : Nat} (h : c j = true) : setC c t j = true := by simp [setC, h]
theorem falses_past (c : Nat → Bool) (t : Nat) : ∀ n, n ≤ t → falses n (setC c t) = falses n c
  | 0, _ => rfl
  | n + 1, h => by
    rw [falses, falses, falses_past c t n (by omega)]
    simp [setC, show n ≠ t by omega]
theorem falses_set {c : Nat → Bool} {t : Nat} (hc : c t = false) : ∀ n, t < n → falses n (setC c t) + 1 = falses n c
  | 0, h => by omega
  | n + 1, h => by
    rw [falses, falses]
    by_cases e : n = t
    · subst e
      rw [falses_past c n n (Nat.le_refl _)]
      simp [setC, hc]
    · have := falses_set hc n (by omega)
      simp only [setC, e, if_false] at this ⊢
      omega
theorem falses_none : ∀ n, falses n (fun _ => false) = n
  | 0 => rfl
  | n + 1 => by rw [falses, falses_none n]; simp

variable {l : List Ar} {N s m p q : Nat} {c : Nat → Bool} {left r : List Int} {t : Int}
/-- This node is marked. -/
def Good (N : Nat) (c : Nat → Bool) (t : Int) : Prop := ∃ j : Nat, t = (j : Int) ∧ j < N ∧ c j = true
theorem Good.set_ {k : Nat} (h : Good N c t) : Good N (setC c k) t := by
  obtain ⟨j, h1, h2, h3⟩ := h
  exact ⟨j, h1, h2, setC_mono h3⟩
theorem mem_outs {i : Nat} : t ∈ outs l i ↔ ∃ x ∈ l, x.1 = (i : Int) ∧ x.2.1 = t := by
  simp [outs, and_assoc]

/-- A search: what is marked, what lies on the stack, and that no more than m rounds are left. -/
structure Dfs (l : List Ar) (N s : Nat) (c : Nat → Bool) (left : List Int) (m : Nat) : Prop where
  start : c s = true
  sound : ∀ i, i < N → c i = true → Comes l s i
  stack : ∀ x ∈ left, Good N c x
  closed : ∀ i : Nat, i < N → c i = true → (i : Int) ∈ left ∨ ∀ t ∈ outs l i, Good N c t
  few : falses N c + left.length ≤ m
/-- Within a round: node p is taken off, the first q of its arcs are done. -/
structure Inner (l : List Ar) (N s : Nat) (c : Nat → Bool) (left : List Int) (m p q : Nat) : Prop where
  lt : p < N
  here : c p = true
  start : c s = true
  sound : ∀ i, i < N → c i = true → Comes l s i
  stack : ∀ x ∈ left, Good N c x
  closed : ∀ i : Nat, i < N → c i = true → (i : Int) ∈ left ∨ (i = p ∧ ∀ t ∈ (outs l p).take q, Good N c t) ∨ ∀ t ∈ outs l i, Good N c t
  few : falses N c + left.length ≤ m
theorem Dfs.begin_ (hs : s < N) : Dfs l N s (setC (fun _ => false) s) [(s : Int)] N where
  start := setC_same _ _
  sound := fun i _ hc => by
    have : i = s := by
      by_cases e : i = s
      · exact e
      · simp [setC, e] at hc
    subst this
    exact .refl
  stack := fun x hx => by
    simp at hx
    subst hx
    exact ⟨s, rfl, hs, setC_same _ _⟩
  closed := fun i _ hc => by
    left
    by_cases e : i = s
    · simp [e]
    · simp [setC, e] at hc
  few := by
    have := falses_set (c := fun _ => false) (t := s) rfl N hs
    rw [falses_none] at this
    simp
    omega
theorem Dfs.pop {x : Int} (h : Dfs l N s c (r ++ [x]) m) : ∃ p m' : Nat, x = (p : Int) ∧ m = m' + 1 ∧ Inner l N s c r m' p 0 := by
  obtain ⟨p, rfl, hp, hc⟩ := h.stack x (by simp)
  have hf := h.few
  simp at hf
  refine ⟨p, m - 1, rfl, by omega, hp, hc, h.start, h.sound, fun y hy => h.stack y (by simp [hy]), fun i hi hci => ?_, by omega⟩
  rcases h.closed i hi hci with h1 | h1
  · simp at h1
    rcases h1 with h1 | h1
    · exact .inl h1
    · exact .inr (.inl ⟨by omega, by simp⟩)
  · exact .inr (.inr h1)
theorem Inner.skip (h : Inner l N s c left m p q) (hx : (outs l p)[q]? = some t) (hg : Good N c t) : Inner l N s c left m p (q + 1) := by
  refine ⟨h.lt, h.here, h.start, h.sound, h.stack, fun i hi hci => ?_, h.few⟩
  rcases h.closed i hi hci with h1 | ⟨h1, h2⟩ | h1
  · exact .inl h1
  · refine .inr (.inl ⟨h1, fun u hu => ?_⟩)
    rw [List.take_add_one, hx] at hu
    simp at hu
    rcases hu with hu | hu
    · exact h2 u hu
    · subst hu; exact hg
  · exact .inr (.inr h1)
theorem Inner.mark {k : Nat} (h : Inner l N s c left m p q) (hx : (outs l p)[q]? = some (k : Int)) (hk : k < N) (hc : c k = false) : Inner l N s (setC c k) (left ++ [(k : Int)]) m p (q + 1) := by
  refine ⟨h.lt, setC_mono h.here, setC_mono h.start, fun i hi hci => ?_, fun y hy => ?_, fun i hi hci => ?_, ?_⟩
  · by_cases e : i = k
    · subst e
      obtain ⟨x, hx1, hx2, hx3⟩ := mem_outs.1 (List.mem_of_getElem? hx)
      exact .step (h.sound p h.lt h.here) hx1 hx2 hx3
    · simp only [setC, e, if_false] at hci
      exact h.sound i hi hci
  · simp at hy
    rcases hy with hy | hy
    · exact (h.stack y hy).set_
    · exact ⟨k, hy, hk, setC_same _ _⟩
  · by_cases e : i = k
    · subst e; simp
    · simp only [setC, e, if_false] at hci
      rcases h.closed i hi hci with h1 | ⟨h1, h2⟩ | h1
      · exact .inl (by simp [h1])
      · refine .inr (.inl ⟨h1, fun u hu => ?_⟩)
        rw [List.take_add_one, hx] at hu
        simp at hu
        rcases hu with hu | hu
        · exact (h2 u hu).set_
        · exact ⟨k, hu, hk, setC_same _ _⟩
      · exact .inr (.inr fun u hu => (h1 u hu).set_)
  · have := falses_set hc N hk
    have := h.few
    simp
    omega
theorem Inner.done (h : Inner l N s c left m p q) (hq : (outs l p).length ≤ q) : Dfs l N s c left m := by
  refine ⟨h.start, h.sound, h.stack, fun i hi hci => ?_, h.few⟩
  rcases h.closed i hi hci with h1 | ⟨h1, h2⟩ | h1
  · exact .inl h1
  · subst h1
    rw [List.take_of_length_le hq] at h2
    exact .inr h2
  · exact .inr h1
theorem Inner.len (h : Inner l N s c left m p q) : left.length ≤ m := by have := h.few; omega
theorem comes_good (hs : s < N) (hst : c s = true) (hcl : ∀ i : Nat, i < N → c i = true → ∀ t ∈ outs l i, Good N c t) {i : Nat} (h : Comes l s i) : i < N ∧ c i = true := by
  induction h with
  | refl => exact ⟨hs, hst⟩
  | step _ hx h1 h2 ih =>
    rename_i i j x _
    obtain ⟨k, e, hk, hc⟩ := hcl i ih.1 ih.2 x.2.1 (mem_outs.2 ⟨x, hx, h1, rfl⟩)
    have : j = k := by omega
    subst this
    exact ⟨hk, hc⟩
theorem Dfs.done (h : Dfs l N s c [] m) (hs : s < N) {i : Nat} (hi : i < N) : c i = true ↔ Comes l s i := by
  refine ⟨h.sound i hi, fun hp => (comes_good hs h.start (fun j hj hcj => ?_) hp).2⟩
  rcases h.closed j hj hcj with h1 | h1
  · cases h1
  · exact h1

/-! ### Rounds over all arcs -/
/-- All of these arcs lead from a marked node to a marked one. -/
def Shut1 (l : List Ar) (c : Nat → Bool) : Prop := ∀ x ∈ l, c x.1.toNat = true → c x.2.1.toNat = true
/-- Behind r rounds. -/
structure Rounds (l : List Ar) (N s : Nat) (c : Nat → Bool) (r : Nat) : Prop where
  start : c s = true
  sound : ∀ i, i < N → c i = true → Comes l s i
  ends : Shut1 l c ∨ falses N c + r + 1 ≤ N
/-- Within round r: the first q arcs are done. -/
structure Pass (l : List Ar) (N s : Nat) (c : Nat → Bool) (r q : Nat) : Prop where
  start : c s = true
  sound : ∀ i, i < N → c i = true → Comes l s i
  ends : Shut1 l c ∨ (falses N c + r + 1 ≤ N ∧ Shut1 (l.take q) c) ∨ falses N c + r + 2 ≤ N
variable {rd f k : Nat} {x : Ar}
theorem Rounds.begin_ (hs : s < N) : Rounds l N s (setC (fun _ => false) s) 0 where
  start := setC_same _ _
  sound := (Dfs.begin_ hs).sound
  ends := by
    have := falses_set (c := fun _ => false) (t := s) rfl N hs
    rw [falses_none] at this
    right
    omega
theorem Rounds.pass (h : Rounds l N s c rd) : Pass l N s c rd 0 := by
  refine ⟨h.start, h.sound, ?_⟩
  rcases h.ends with h1 | h1
  · exact .inl h1
  · exact .inr (.inl ⟨h1, fun x hx => by simp at hx⟩)
theorem Pass.skip (h : Pass l N s c rd q) (hx : l[q]? = some x) (hb : c x.1.toNat = true → c x.2.1.toNat = true) : Pass l N s c rd (q + 1) := by
  refine ⟨h.start, h.sound, ?_⟩
  rcases h.ends with h1 | ⟨h1, h2⟩ | h1
  · exact .inl h1
  · refine .inr (.inl ⟨h1, fun y hy => ?_⟩)
    rw [List.take_add_one, hx] at hy
    simp at hy
    rcases hy with hy | hy
    · exact h2 y hy
    · subst hy; exact hb
  · exact .inr (.inr h1)
theorem Pass.mark (h : Pass l N s c rd q) (hx : l[q]? = some x) (h1 : x.1 = (f : Int)) (h2 : x.2.1 = (k : Int)) (hf : f < N) (hk : k < N) (hcf : c f = true) (hck : c k = false) : Pass l N s (setC c k) rd (q + 1) := by
  have hxl := List.mem_of_getElem? hx
  refine ⟨setC_mono h.start, fun i hi hci => ?_, ?_⟩
  · by_cases e : i = k
    · subst e
      exact .step (h.sound f hf hcf) hxl h1 h2
    · simp only [setC, e, if_false] at hci
      exact h.sound i hi hci
  · have := falses_set hck N hk
    rcases h.ends with h3 | ⟨h3, _⟩ | h3
    · have := h3 x hxl (by rw [h1]; simpa using hcf)
      rw [h2] at this
      simp [hck] at this
    · exact .inr (.inr (by omega))
    · exact .inr (.inr (by omega))
theorem Pass.done (h : Pass l N s c rd q) (hq : l.length ≤ q) : Rounds l N s c (rd + 1) := by
  refine ⟨h.start, h.sound, ?_⟩
  rcases h.ends with h1 | ⟨_, h1⟩ | h1
  · exact .inl h1
  · rw [List.take_of_length_le hq] at h1
    exact .inl h1
  · exact .inr (by omega)
theorem Rounds.done (h : Rounds l N s c N) (hs : s < N) (hok : ∀ x ∈ l, okA (N : Int) x = true) {i : Nat} (hi : i < N) : c i = true ↔ Comes l s i := by
  have hsh : Shut1 l c := by
    rcases h.ends with h1 | h1
    · exact h1
    · omega
  refine ⟨h.sound i hi, fun hp => (comes_good hs h.start (fun j hj hcj t ht => ?_) hp).2⟩
  obtain ⟨x, hx, h1, h2⟩ := mem_outs.1 ht
  have ho := okA_true.1 (hok x hx)
  have hc := hsh x hx (by rw [h1]; simpa using hcj)
  exact ⟨x.2.1.toNat, by omega, by omega, hc⟩
theorem outs_good (hok : ∀ x ∈ l, okA (N : Int) x = true) {i q : Nat} (h : (outs l i)[q]? = some t) : ∃ k : Nat, t = (k : Int) ∧ k < N := by
  obtain ⟨x, hx, _, h2⟩ := mem_outs.1 (List.mem_of_getElem? h)
  have ho := okA_true.1 (hok x hx)
  exact ⟨t.toNat, by omega, by omega⟩
end Go.Proofs.Ytmmhdjibigopfaa
