/- Plain facts on things in a heap: no Go in sight. -/
import Derived.Sort.LotA
namespace Go.Proofs.Ytgoegkajfhhcjaa
open Go.Sort (swp swp_get size_swp perm_set_set)

/-- A thing: its key, its number. -/
abbrev It := Int × Int
/-- One is ahead of another. -/
def lessB (x y : It) : Bool := decide (x.1 < y.1 ∨ x.1 = y.1 ∧ x.2 < y.2)
/-- One is not behind another. -/
def Le (x y : It) : Prop := x.1 < y.1 ∨ x.1 = y.1 ∧ x.2 ≤ y.2
theorem lessB_false {x y : It} : lessB x y = false ↔ Le y x := by unfold lessB Le; rw [decide_eq_false_iff_not]; omega
theorem lessB_true {x y : It} : lessB x y = true ↔ ¬ Le y x := by unfold lessB Le; rw [decide_eq_true_iff]; omega
theorem Le.refl (x : It) : Le x x := Or.inr ⟨rfl, Int.le_refl _⟩
theorem Le.trans {x y z : It} (h : Le x y) (g : Le y z) : Le x z := by unfold Le at *; omega
theorem Le.total (x y : It) : Le x y ∨ Le y x := by unfold Le; omega
theorem Le.antisymm {x y : It} (h : Le x y) (g : Le y x) : x = y := by
  unfold Le at h g
  exact Prod.ext (by omega) (by omega)
theorem Le.of_less {x y : It} (h : ¬ Le y x) : Le x y := (Le.total x y).resolve_right h

/-- The first n places are a heap. -/
def HeapB (n : Nat) (d : Array It) : Prop := ∀ k, 0 < k → k < n → Le d[(k - 1) / 2]! d[k]!
/-- .. but that the thing at j may have to go up. -/
def UpInv (n j : Nat) (d : Array It) : Prop :=
  (∀ k, 0 < k → k < n → k ≠ j → Le d[(k - 1) / 2]! d[k]!) ∧ (∀ k, 0 < k → k < n → (k - 1) / 2 = j → 0 < j → Le d[(j - 1) / 2]! d[k]!)
/-- .. but that the thing at i may have to go down. -/
def DownInv (n i : Nat) (d : Array It) : Prop :=
  (∀ k, 0 < k → k < n → (k - 1) / 2 ≠ i → Le d[(k - 1) / 2]! d[k]!) ∧ (∀ k, 0 < k → k < n → (k - 1) / 2 = i → 0 < i → Le d[(i - 1) / 2]! d[k]!)

theorem heap_min {n : Nat} {d : Array It} (h : HeapB n d) : ∀ k, k < n → Le d[0]! d[k]! := by
  intro k
  induction k using Nat.strongRecOn with
  | ind k ih =>
    intro hk
    by_cases h0 : k = 0
    · subst h0; exact Le.refl _
    · exact (ih ((k - 1) / 2) (by omega) (by omega)).trans (h k (by omega) hk)
theorem heap_nil (d : Array It) : HeapB 0 d := fun k _ h => absurd h (Nat.not_lt_zero k)
theorem heap_mono {n m : Nat} {d : Array It} (h : HeapB n d) (hm : m ≤ n) : HeapB m d := fun k h0 hk => h k h0 (by omega)
theorem heap_congr {n : Nat} {d e : Array It} (h : HeapB n d) (he : ∀ k, k < n → e[k]! = d[k]!) : HeapB n e := fun k h0 hk => by
  rw [he k hk, he ((k - 1) / 2) (by omega)]; exact h k h0 hk

theorem get_push_lt (d : Array It) (x : It) (k : Nat) (h : k < d.size) : (d.push x)[k]! = d[k]! := by
  rw [getElem!_pos _ k (by simp; omega), getElem!_pos d k h, Array.getElem_push_lt]
theorem get_push_eq (d : Array It) (x : It) : (d.push x)[d.size]! = x := by
  rw [getElem!_pos _ _ (by simp), Array.getElem_push_eq]
theorem get_pop (d : Array It) (k : Nat) (h : k < d.size - 1) : (d.pop)[k]! = d[k]! := by
  rw [getElem!_pos _ k (by simpa using h), getElem!_pos d k (by omega), Array.getElem_pop]

theorem up_start {d : Array It} (x : It) (h : HeapB d.size d) : UpInv (d.size + 1) d.size (d.push x) := by
  refine ⟨fun k h0 hk hne => ?_, fun k h0 hk he hj => ?_⟩
  · rw [get_push_lt d x k (by omega), get_push_lt d x _ (by omega)]
    exact h k h0 (by omega)
  · exfalso; omega
theorem up_stop {n j : Nat} {d : Array It} (h : UpInv n j d) (hs : j = 0 ∨ Le d[(j - 1) / 2]! d[j]!) : HeapB n d := by
  intro k h0 hk
  by_cases hj : k = j
  · subst hj
    rcases hs with hs | hs
    · omega
    · exact hs
  · exact h.1 k h0 hk hj
theorem up_step {n i j : Nat} {d : Array It} (hn : n ≤ d.size) (h : UpInv n j d) (hj : 0 < j) (hjn : j < n) (hi : i = (j - 1) / 2) (hl : ¬ Le d[i]! d[j]!) : UpInv n i (swp d i j) := by
  have hij : i < j := by omega
  have g := swp_get d (i := i) (j := j) (by omega) (by omega)
  have hl' := Le.of_less hl
  refine ⟨fun k h0 hk hne => ?_, fun k h0 hk he hi0 => ?_⟩
  · rw [g, g]
    by_cases k1 : k = j
    · subst k1
      rw [if_neg (by omega), if_pos hi.symm, if_pos rfl]
      exact hl'
    · rw [if_neg k1, if_neg hne]
      by_cases p1 : (k - 1) / 2 = j
      · rw [if_pos p1, hi]
        exact h.2 k h0 hk p1 hj
      · rw [if_neg p1]
        by_cases p2 : (k - 1) / 2 = i
        · rw [if_pos p2]
          have := h.1 k h0 hk k1
          rw [p2] at this
          exact hl'.trans this
        · rw [if_neg p2]
          exact h.1 k h0 hk k1
  · rw [g, g]
    rw [if_neg (by omega), if_neg (by omega)]
    have hii := h.1 i hi0 (by omega) (by omega)
    by_cases k1 : k = j
    · rw [if_pos k1]; exact hii
    · rw [if_neg k1, if_neg (by omega)]
      have := h.1 k h0 hk k1
      rw [he] at this
      exact hii.trans this

theorem down_start {n : Nat} {d : Array It} (hs : d.size = n + 1) (h : HeapB (n + 1) d) : DownInv n 0 (swp d 0 n) := by
  have g := swp_get d (i := 0) (j := n) (by omega) (by omega)
  refine ⟨fun k h0 hk hne => ?_, fun k h0 hk he h1 => absurd h1 (Nat.lt_irrefl 0)⟩
  rw [g, g, if_neg (by omega), if_neg (by omega), if_neg (by omega), if_neg (by omega)]
  exact h k h0 (by omega)
theorem down_stop {n i : Nat} {d : Array It} (h : DownInv n i d) (hs : ∀ k, 0 < k → k < n → (k - 1) / 2 = i → Le d[i]! d[k]!) : HeapB n d := by
  intro k h0 hk
  by_cases hp : (k - 1) / 2 = i
  · rw [hp]; exact hs k h0 hk hp
  · exact h.1 k h0 hk hp
theorem down_step {n i j : Nat} {d : Array It} (hn : n ≤ d.size) (h : DownInv n i d) (hj : 0 < j) (hjn : j < n) (hi : (j - 1) / 2 = i) (hl : ¬ Le d[i]! d[j]!)
    (ho : ∀ k, 0 < k → k < n → (k - 1) / 2 = i → Le d[j]! d[k]!) : DownInv n j (swp d i j) := by
  have hij : i < j := by omega
  have g := swp_get d (i := i) (j := j) (by omega) (by omega)
  have hl' := Le.of_less hl
  refine ⟨fun k h0 hk hne => ?_, fun k h0 hk he hj0 => ?_⟩
  · rw [g, g]
    rw [if_neg hne]
    by_cases k1 : k = j
    · subst k1
      rw [if_pos rfl, if_pos hi]
      exact hl'
    · rw [if_neg k1]
      by_cases p2 : (k - 1) / 2 = i
      · rw [if_pos p2, if_neg (by omega)]
        exact ho k h0 hk p2
      · rw [if_neg p2]
        by_cases k2 : k = i
        · rw [if_pos k2]
          have := h.2 j hj hjn hi (by omega)
          rw [k2]; exact this
        · rw [if_neg k2]
          exact h.1 k h0 hk p2
  · rw [g, g]
    rw [if_neg (by omega), if_pos hi, if_neg (by omega), if_neg (by omega)]
    have := h.1 k h0 hk (by omega)
    rw [he] at this
    exact this

theorem list_set_swap (l : List It) (i j : Nat) (hi : i < l.length) (hj : j < l.length) : ((l.set i l[j]).set j l[i]).Perm l := perm_set_set l i j hi hj
theorem swp_toList (d : Array It) (i j : Nat) (hi : i < d.size) (hj : j < d.size) : (swp d i j).toList = (d.toList.set i (d.toList[j]'(by simpa using hj))).set j (d.toList[i]'(by simpa using hi)) := by
  unfold swp
  simp [getElem!_pos d i hi, getElem!_pos d j hj]
theorem swp_perm (d : Array It) (i j : Nat) (hi : i < d.size) (hj : j < d.size) : (swp d i j).toList.Perm d.toList := by
  rw [swp_toList d i j hi hj]
  exact list_set_swap d.toList i j (by simpa using hi) (by simpa using hj)

/-- What is left behind the last one. -/
theorem pop_perm (d : Array It) (n : Nat) (hs : d.size = n + 1) : d.toList.Perm (d[n]! :: d.pop.toList) := by
  have h1 : d.toList = d.pop.toList ++ [d[n]!] := by
    have hn : n < d.toList.length := by simp; omega
    rw [Array.toList_pop, getElem!_pos d n (by omega)]
    have h2 := List.dropLast_concat_getLast (l := d.toList) (by intro e; rw [e] at hn; simp at hn)
    conv => lhs; rw [← h2]
    congr 2
    rw [List.getLast_eq_getElem]
    simp [hs]
  rw [h1]
  exact List.perm_append_comm
theorem push_perm (d : Array It) (x : It) : (d.push x).toList.Perm (x :: d.toList) := by
  simp only [Array.toList_push]
  exact List.perm_append_comm
theorem mem_get (d : Array It) (k : Nat) (h : k < d.size) : d[k]! ∈ d.toList := by
  rw [getElem!_pos d k h]; simp
theorem get_mem (d : Array It) (x : It) (h : x ∈ d.toList) : ∃ k, k < d.size ∧ d[k]! = x := by
  obtain ⟨k, hk, e⟩ := List.getElem_of_mem h
  refine ⟨k, by simpa using hk, ?_⟩
  rw [getElem!_pos d k (by simpa using hk)]
  simpa using e
/-- The first of a heap comes ahead of all of it. -/
theorem heap_least {d : Array It} (h : HeapB d.size d) : ∀ x ∈ d.toList, Le d[0]! x := by
  intro x hx
  obtain ⟨k, hk, rfl⟩ := get_mem d x hx
  exact heap_min h k hk
end Go.Proofs.Ytgoegkajfhhcjaa
