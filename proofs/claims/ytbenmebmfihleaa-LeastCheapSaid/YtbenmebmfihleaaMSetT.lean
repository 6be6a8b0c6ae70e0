/- Joined: Heap, SetT, SetP, CntT, DijT, PourT. -/
import Derived.Sort.LotA
import Derived.Test.YtbenmebmfihleaaMSpec
import Derived.Test.YtbenmebmfihleaaMFlowT
section
/- Plain facts on things in a heap: no Go in sight. -/
namespace Go.Proofs.Ytbenmebmfihleaa
open Go.Sort (swp swp_get size_swp perm_set_set)

/-- A thing: its key, its number. -/
abbrev It := Int × Int
/-- One is ahead of another. -/
def lessB (x y : It) : Bool := decide (x.1 < y.1 ∨ x.1 = y.1 ∧ x.2 < y.2)
/-- One is not behind another. -/
def Le (x y : It) : Prop := x.1 < y.1 ∨ x.1 = y.1 ∧ x.2 ≤ y.2
theorem lessB_false {x y : It} : lessB x y = false ↔ Le y x := by unfold lessB Le; rw [decide_eq_false_iff_not]; omega
theorem lessB_true {x y : It} : lessB x y = true ↔ ¬ Le y x := by unfold lessB Le; rw [decide_eq_true_iff]; omega
theorem Le.refl (x : It) : Le x x := Or.inr ⟨rfl, Int.le_refl _⟩
theorem Le.trans {x y z : It} (h : Le x y) (g : Le y z) : Le x z := by unfold Le at *; omega
theorem Le.total (x y : It) : Le x y ∨ Le y x := by unfold Le; omega
theorem Le.antisymm {x y : It} (h : Le x y) (g : Le y x) : x = y := by
  unfold Le at h g
  exact Prod.ext (by omega) (by omega)
theorem Le.of_less {x y : It} (h : ¬ Le y x) : Le x y := (Le.total x y).resolve_right h

/-- The first n places are a heap. -/
def HeapB (n : Nat) (d : Array It) : Prop := ∀ k, 0 < k → k < n → Le d[(k - 1) / 2]! d[k]!
/-- .. but that the thing at j may have to go up. -/
def UpInv (n j : Nat) (d : Array It) : Prop :=
  (∀ k, 0 < k → k < n → k ≠ j → Le d[(k - 1) / 2]! d[k]!) ∧ (∀ k, 0 < k → k < n → (k - 1) / 2 = j → 0 < j → Le d[(j - 1) / 2]! d[k]!)
/-- .. but that the thing at i may have to go down. -/
def DownInv (n i : Nat) (d : Array It) : Prop :=
  (∀ k, 0 < k → k < n → (k - 1) / 2 ≠ i → Le d[(k - 1) / 2]! d[k]!) ∧ (∀ k, 0 < k → k < n → (k - 1) / 2 = i → 0 < i → Le d[(i - 1) / 2]! d[k]!)

theorem heap_min {n : Nat} {d : Array It} (h : HeapB n d) : ∀ k, k < n → Le d[0]! d[k]! := by
  intro k
  induction k using Nat.strongRecOn with
  | ind k ih =>
    intro hk
    by_cases h0 : k = 0
    · subst h0; exact Le.refl _
    · exact (ih ((k - 1) / 2) (by omega) (by omega)).trans (h k (by omega) hk)
theorem heap_nil (d : Array It) : HeapB 0 d := fun k _ h => absurd h (Nat.not_lt_zero k)
theorem heap_mono {n m : Nat} {d : Array It} (h : HeapB n d) (hm : m ≤ n) : HeapB m d := fun k h0 hk => h k h0 (by omega)
theorem heap_congr {n : Nat} {d e : Array It} (h : HeapB n d) (he : ∀ k, k < n → e[k]! = d[k]!) : HeapB n e := fun k h0 hk => by
  rw [he k hk, he ((k - 1) / 2) (by omega)]; exact h k h0 hk

theorem get_push_lt (d : Array It) (x : It) (k : Nat) (h : k < d.size) : (d.push x)[k]! = d[k]! := by
  rw [getElem!_pos _ k (by simp; omega), getElem!_pos d k h, Array.getElem_push_lt]
theorem get_push_eq (d : Array It) (x : It) : (d.push x)[d.size]! = x := by
  rw [getElem!_pos _ _ (by simp), Array.getElem_push_eq]
theorem get_pop (d : Array It) (k : Nat) (h : k < d.size - 1) : (d.pop)[k]! = d[k]! := by
  rw [getElem!_pos _ k (by simpa using h), getElem!_pos d k (by omega), Array.getElem_pop]

theorem up_start {d : Array It} (x : It) (h : HeapB d.size d) : UpInv (d.size + 1) d.size (d.push x) := by
  refine ⟨fun k h0 hk hne => ?_, fun k h0 hk he hj => ?_⟩
  · rw [get_push_lt d x k (by omega), get_push_lt d x _ (by omega)]
    exact h k h0 (by omega)
  · exfalso; omega
theorem up_stop {n j : Nat} {d : Array It} (h : UpInv n j d) (hs : j = 0 ∨ Le d[(j - 1) / 2]! d[j]!) : HeapB n d := by
  intro k h0 hk
  by_cases hj : k = j
  · subst hj
    rcases hs with hs | hs
    · omega
    · exact hs
  · exact h.1 k h0 hk hj
theorem up_step {n i j : Nat} {d : Array It} (hn : n ≤ d.size) (h : UpInv n j d) (hj : 0 < j) (hjn : j < n) (hi : i = (j - 1) / 2) (hl : ¬ Le d[i]! d[j]!) : UpInv n i (swp d i j) := by
  have hij : i < j := by omega
  have g := swp_get d (i := i) (j := j) (by omega) (by omega)
  have hl' := Le.of_less hl
  refine ⟨fun k h0 hk hne => ?_, fun k h0 hk he hi0 => ?_⟩
  · rw [g, g]
    by_cases k1 : k = j
    · subst k1
      rw [if_neg (by omega), if_pos hi.symm, if_pos rfl]
      exact hl'
    · rw [if_neg k1, if_neg hne]
      by_cases p1 : (k - 1) / 2 = j
      · rw [if_pos p1, hi]
        exact h.2 k h0 hk p1 hj
      · rw [if_neg p1]
        by_cases p2 : (k - 1) / 2 = i
        · rw [if_pos p2]
          have := h.1 k h0 hk k1
          rw [p2] at this
          exact hl'.trans this
        · rw [if_neg p2]
          exact h.1 k h0 hk k1
  · rw [g, g]
    rw [if_neg (by omega), if_neg (by omega)]
    have hii := h.1 i hi0 (by omega) (by omega)
    by_cases k1 : k = j
    · rw [if_pos k1]; exact hii
    · rw [if_neg k1, if_neg (by omega)]
      have := h.1 k h0 hk k1
      rw [he] at this
      exact hii.trans this

theorem down_start {n : Nat} {d : Array It} (hs : d.size = n + 1) (h : HeapB (n + 1) d) : DownInv n 0 (swp d 0 n) := by
  have g := swp_get d (i := 0) (j := n) (by omega) (by omega)
  refine ⟨fun k h0 hk hne => ?_, fun k h0 hk he h1 => absurd h1 (Nat.lt_irrefl 0)⟩
  rw [g, g, if_neg (by omega), if_neg (by omega), if_neg (by omega), if_neg (by omega)]
  exact h k h0 (by omega)
theorem down_stop {n i : Nat} {d : Array It} (h : DownInv n i d) (hs : ∀ k, 0 < k → k < n → (k - 1) / 2 = i → Le d[i]! d[k]!) : HeapB n d := by
  intro k h0 hk
  by_cases hp : (k - 1) / 2 = i
  · rw [hp]; exact hs k h0 hk hp
  · exact h.1 k h0 hk hp
theorem down_step {n i j : Nat} {d : Array It} (hn : n ≤ d.size) (h : DownInv n i d) (hj : 0 < j) (hjn : j < n) (hi : (j - 1) / 2 = i) (hl : ¬ Le d[i]! d[j]!)
    (ho : ∀ k, 0 < k → k < n → (k - 1) / 2 = i → Le d[j]! d[k]!) : DownInv n j (swp d i j) := by
  have hij : i < j := by omega
  have g := swp_get d (i := i) (j := j) (by omega) (by omega)
  have hl' := Le.of_less hl
  refine ⟨fun k h0 hk hne => ?_, fun k h0 hk he hj0 => ?_⟩
  · rw [g, g]
    rw [if_neg hne]
    by_cases k1 : k = j
    · subst k1
      rw [if_pos rfl, if_pos hi]
      exact hl'
    · rw [if_neg k1]
      by_cases p2 : (k - 1) / 2 = i
      · rw [if_pos p2, if_neg (by omega)]
        exact ho k h0 hk p2
      · rw [if_neg p2]
        by_cases k2 : k = i
        · rw [if_pos k2]
          have := h.2 j hj hjn hi (by omega)
          rw [k2]; exact this
        · rw [if_neg k2]
          exact h.1 k h0 hk p2
  · rw [g, g]
    rw [if_neg (by omega), if_pos hi, if_neg (by omega), if_neg (by omega)]
    have := h.1 k h0 hk (by omega)
    rw [he] at this
    exact this

theorem list_set_swap (l : List It) (i j : Nat) (hi : i < l.length) (hj : j < l.length) : ((l.set i l[j]).set j l[i]).Perm l := perm_set_set l i j hi hj
theorem swp_toList (d : Array It) (i j : Nat) (hi : i < d.size) (hj : j < d.size) : (swp d i j).toList = (d.toList.set i (d.toList[j]'(by simpa using hj))).set j (d.toList[i]'(by simpa using hi)) := by
  unfold swp
  simp [getElem!_pos d i hi, getElem!_pos d j hj]
theorem swp_perm (d : Array It) (i j : Nat) (hi : i < d.size) (hj : j < d.size) : (swp d i j).toList.Perm d.toList := by
  rw [swp_toList d i j hi hj]
  exact list_set_swap d.toList i j (by simpa using hi) (by simpa using hj)

/-- What is left behind the last one. -/
theorem pop_perm (d : Array It) (n : Nat) (hs : d.size = n + 1) : d.toList.Perm (d[n]! :: d.pop.toList) := by
  have h1 : d.toList = d.pop.toList ++ [d[n]!] := by
    have hn : n < d.toList.length := by simp; omega
    rw [Array.toList_pop, getElem!_pos d n (by omega)]
    have h2 := List.dropLast_concat_getLast (l := d.toList) (by intro e; rw [e] at hn; simp at hn)
    conv => lhs; rw [← h2]
    congr 2
    rw [List.getLast_eq_getElem]
    simp [hs]
  rw [h1]
  exact List.perm_append_comm
theorem push_perm (d : Array It) (x : It) : (d.push x).toList.Perm (x :: d.toList) := by
  simp only [Array.toList_push]
  exact List.perm_append_comm
theorem mem_get (d : Array It) (k : Nat) (h : k < d.size) : d[k]! ∈ d.toList := by
  rw [getElem!_pos d k h]; simp
theorem get_mem (d : Array It) (x : It) (h : x ∈ d.toList) : ∃ k, k < d.size ∧ d[k]! = x := by
  obtain ⟨k, hk, e⟩ := List.getElem_of_mem h
  refine ⟨k, by simpa using hk, ?_⟩
  rw [getElem!_pos d k (by simpa using hk)]
  simpa using e
/-- The first of a heap comes ahead of all of it. -/
theorem heap_least {d : Array It} (h : HeapB d.size d) : ∀ x ∈ d.toList, Le d[0]! x := by
  intro x hx
  obtain ⟨k, hk, rfl⟩ := get_mem d x hx
  exact heap_min h k hk
end Go.Proofs.Ytbenmebmfihleaa
end
section
/- What flows on its way, as cheap as the heights tell: plain mathematics of package least. -/
namespace Go.Proofs.Ytbenmebmfihleaa

variable {l : List Pi} {N s t k u v co : Nat} {fl fl2 f0 h h0 h2 st st2 d : Nat → Int} {x : Pi} {L : Nat → List La} {a : La} {m want T ne R : Int}
/-- The lanes of each node, as the pipes lie: those from a node to itself among them. -/
structure LanesK (l : List Pi) (N : Nat) (L : Nat → List La) : Prop where
  sound : ∀ u, u < N → ∀ a ∈ L u, ∃ x, l[a.1]? = some x ∧ a.2.1 < N ∧ (if a.2.2 = true then x.2.1 = (u : Int) ∧ x.1 = (a.2.1 : Int) else x.1 = (u : Int) ∧ x.2.1 = (a.2.1 : Int))
  all : ∀ (k : Nat) (x : Pi) (f t : Nat), l[k]? = some x → x.1 = (f : Int) → x.2.1 = (t : Int) → (k, t, false) ∈ L f ∧ (k, f, true) ∈ L t
theorem LanesK.lane (hl : LanesK l N L) (hu : u < N) (ha : a ∈ L u) : ∃ x, l[a.1]? = some x ∧ a.1 < l.length ∧ a.2.1 < N := by
  obtain ⟨x, hx, h1, _⟩ := hl.sound u hu a ha
  exact ⟨x, hx, (List.getElem?_eq_some_iff.1 hx).1, h1⟩
/-- The lane's other way. -/
theorem LanesK.turn (hl : LanesK l N L) (hu : u < N) (ha : a ∈ L u) : (a.1, u, !a.2.2) ∈ L a.2.1 := by
  obtain ⟨x, hx, h1, h2⟩ := hl.sound u hu a ha
  obtain ⟨k, v, b⟩ := a
  cases b with
  | false => simp at h2; simpa using (hl.all k x u v hx h2.1 h2.2).2
  | true => simp at h2; simpa using (hl.all k x v u hx h2.2 h2.1).1
/-- A pipe's steepness, by what is looked at of its cost. -/
def stp (co : Nat) (h : Nat → Int) (x : Pi) : Int := x.2.2.2 / 2 ^ co + h x.1.toNat - h x.2.1.toNat
theorem stp_zero (h : Nat → Int) (x : Pi) : stp 0 h x = steep h x := by unfold stp steep; rw [Int.pow_zero, Int.ediv_one]
/-- A lane's steepness. -/
def riseP (co : Nat) (h : Nat → Int) (b : Bool) (x : Pi) : Int := if b = true then - stp co h x else stp co h x
def rise (l : List Pi) (co : Nat) (h : Nat → Int) (a : La) : Int := match l[a.1]? with | some x => riseP co h a.2.2 x | none => 0
theorem rise_of (hx : l[a.1]? = some x) : rise l co h a = riseP co h a.2.2 x := by rw [rise, hx]
/-- The heights tell that what flows is cheap, as the costs are looked at. -/
def Cheap (l : List Pi) (co : Nat) (fl h : Nat → Int) : Prop := ∀ (k : Nat) (x : Pi), l[k]? = some x → (fl k < x.2.2.1 → 0 ≤ stp co h x) ∧ (0 < fl k → stp co h x ≤ 0)
def Capd (l : List Pi) (fl : Nat → Int) : Prop := ∀ (k : Nat) (x : Pi), l[k]? = some x → 0 ≤ fl k ∧ fl k ≤ x.2.2.1
/-- What is wanted of node i. -/
def duty (s t : Nat) (want : Int) (i : Nat) : Int := if i = s then want else if i = t then -want else 0
/-- What stays is what is wanted, and what is brought. -/
def Bal (l : List Pi) (N s t : Nat) (want : Int) (fl st : Nat → Int) : Prop := ∀ i, i < N → st i = duty s t want i + netTo l fl (i : Int) l.length
/-- The net that is meant. -/
structure NetK (l : List Pi) (N s t : Nat) (want : Int) (L : Nat → List La) : Prop where
  ok : ∀ x ∈ l, okP (N : Int) x = true
  cost : ∀ x ∈ l, 0 ≤ x.2.2.2 ∧ x.2.2.2 ≤ 4294967296
  lm : l.length ≤ 20000
  nm : N ≤ 1000
  sN : s < N
  tN : t < N
  stn : s ≠ t
  w0 : 0 ≤ want
  w1 : want ≤ 10000
  lanes : LanesK l N L
  degs : sumN N (fun i => ((L i).length : Int)) ≤ 2 * (l.length : Int)
structure ST (l : List Pi) (N s t : Nat) (want : Int) (co : Nat) (fl h st : Nat → Int) : Prop where
  cap : Capd l fl
  cheap : Cheap l co fl h
  bal : Bal l N s t want fl st
theorem NetK.many (hn : NetK l N s t want L) (hu : u < N) : (L u).length ≤ 40000 := by
  have h1 := sumN_ge (u := u) (n := N) (f := fun i => ((L i).length : Int)) (fun i _ => by omega) hu
  have h2 := hn.degs
  have h3 := hn.lm
  omega
theorem NetK.ends (hn : NetK l N s t want L) (hx : l[k]? = some x) : ∃ f g : Nat, x.1 = (f : Int) ∧ x.2.1 = (g : Int) ∧ f < N ∧ g < N := by
  have hxo := okP_true.1 (hn.ok x (List.mem_of_getElem? hx))
  exact ⟨x.1.toNat, x.2.1.toNat, by omega, by omega, by omega, by omega⟩
theorem Cheap.lane (hc : Cheap l co fl h) (hl : LanesK l N L) (hu : u < N) (ha : a ∈ L u) (hp : 0 < lft l fl a) : 0 ≤ rise l co h a := by
  obtain ⟨x, hx, _, h2⟩ := hl.sound u hu a ha
  obtain ⟨c1, c2⟩ := hc a.1 x hx
  rw [rise_of hx]
  unfold riseP
  unfold lft at hp
  rw [room_of hx] at hp
  split
  · rename_i e; rw [if_pos e] at hp; have := c2 hp; omega
  · rename_i e; rw [if_neg e] at hp; exact c1 (by omega)
theorem LanesK.sum_all (hn : NetK l N s t want L) : sumN N (fun i => duty s t want i) = 0 := by
  rw [sumN_two hn.stn hn.sN hn.tN (fun i _ h1 h2 => by simp [duty, h1, h2])]
  unfold duty
  rw [if_pos rfl, if_neg (fun e => hn.stn e.symm), if_pos rfl]
  omega
/-- What stays in a set of nodes: what is wanted there, less what flows out. -/
theorem Bal.inside (hb : Bal l N s t want fl st) (hok : ∀ x ∈ l, okP (N : Int) x = true) (S : Nat → Bool) :
    sumN N (fun i => if S i = true then st i else 0) = sumN N (fun i => if S i = true then duty s t want i else 0) - sumP l (across fl S) l.length := by
  have e := Go.Proofs.Ytbenmebmfihleaa.inside hok fl S l.length
  have e2 : sumN N (fun i => if S i = true then st i else 0) = sumN N (fun i => (if S i = true then duty s t want i else 0) + (if S i = true then netTo l fl (i : Int) l.length else 0)) := by
    apply sumN_congr
    intro i hi
    have := hb i hi
    split <;> omega
  rw [e2, sumN_add, e]
  omega
theorem Bal.all (hb : Bal l N s t want fl st) (hn : NetK l N s t want L) : sumN N st = 0 := by
  have e := hb.inside hn.ok (fun _ => true)
  have e3 : sumP l (across fl (fun _ => true)) l.length = 0 := by
    rw [sumP_congr (h := fun _ _ => 0) (fun k x _ => by simp [across, outB, inB]) _, sumP_nil]
  rw [e3] at e
  simp only [if_true] at e
  rw [LanesK.sum_all hn] at e
  simpa using e
theorem sumN_neg (f : Nat → Int) : ∀ n, sumN n (fun i => - f i) = - sumN n f
  | 0 => rfl
  | n + 1 => by rw [sumN, sumN, sumN_neg f n]; omega
/-- Nothing stays that must go on: then nothing must come. -/
theorem Bal.settled (hb : Bal l N s t want fl st) (hn : NetK l N s t want L) (h0 : ∀ i, i < N → ¬ 0 < st i) : ∀ i, i < N → st i = 0 := fun i hi => by
  have e := hb.all hn
  have e2 := sumN_neg st N
  have h1 := sumN_ge (u := i) (n := N) (f := fun i => - st i) (fun j hj => by have := h0 j hj; omega) hi
  have := h0 i hi
  omega
/-- Something stays: something must come. -/
theorem Bal.wants (hb : Bal l N s t want fl st) (hn : NetK l N s t want L) (hu : u < N) (hpos : 0 < st u) : ∃ v, v < N ∧ st v < 0 := by
  apply Classical.byContradiction
  intro hno
  have e := hb.all hn
  have h1 := sumN_ge (u := u) (n := N) (f := st) (fun j hj => Int.not_lt.1 (fun h => hno ⟨j, hj, h⟩)) hu
  omega
theorem netTo_cap (hn : NetK l N s t want L) (hc : Capd l fl) (i : Int) : -(20000 * 1099511627776) ≤ netTo l fl i l.length ∧ netTo l fl i l.length ≤ 20000 * 1099511627776 := by
  have h1 := sumP_bound (l := l) (g := brings fl i) (B := 1099511627776) (by omega) (fun k x hx => by
    have h2 := hc k x hx
    have h3 := okP_true.1 (hn.ok x (List.mem_of_getElem? hx))
    unfold brings
    split <;> split <;> omega) l.length
  have h2 : (l.length : Int) ≤ 20000 := by have := hn.lm; omega
  unfold netTo
  omega
theorem ST.small (hs : ST l N s t want co fl h st) (hn : NetK l N s t want L) (hu : u < N) : -36028797018963968 ≤ st u ∧ st u ≤ 36028797018963968 := by
  have h1 := netTo_cap hn hs.cap (u : Int)
  have h2 := hs.bal u hu
  have h3 := hn.w0
  have h4 := hn.w1
  unfold duty at h2
  split at h2
  · omega
  · split at h2 <;> omega

/-! ### All are lifted -/
theorem ST.lift (hs : ST l N s t want co fl h st) (hn : NetK l N s t want L) (e : ∀ i, i < N → h2 i = h i + d i) (hd : ∀ u, u < N → ∀ a ∈ L u, 0 < lft l fl a → d a.2.1 ≤ d u + rise l co h a) : ST l N s t want co fl h2 st := by
  refine ⟨hs.cap, fun k x hx => ?_, hs.bal⟩
  obtain ⟨f, g, hf, hg, hfN, hgN⟩ := hn.ends hx
  obtain ⟨l1, l2⟩ := hn.lanes.all k x f g hx hf hg
  have d1 := hd f hfN _ l1
  have d2 := hd g hgN _ l2
  rw [rise_of (a := (k, g, false)) hx] at d1
  rw [rise_of (a := (k, f, true)) hx] at d2
  have e1 := e f hfN
  have e2 := e g hgN
  simp only [lft, room_of hx, riseP, stp, hf, hg, Int.toNat_natCast, Bool.false_eq_true, if_false, if_true] at d1 d2 ⊢
  constructor
  · intro hlt
    have := d1 (by omega)
    omega
  · intro hlt
    have := d2 hlt
    omega
/-! ### One bit more is looked at -/
theorem bit_more (c : Int) (co : Nat) : c / 2 ^ (co + 1) * 2 ≤ c / 2 ^ co ∧ c / 2 ^ co ≤ c / 2 ^ (co + 1) * 2 + 1 := by
  have e : c / 2 ^ (co + 1) = c / 2 ^ co / 2 := by
    rw [Int.pow_succ, ← Int.ediv_ediv_of_nonneg (Int.le_of_lt (Int.pow_pos (by omega)))]
  rw [e]
  omega
theorem stp_finer (co : Nat) (e : ∀ i, i < N → h2 i = 2 * h i) (hf : x.1.toNat < N) (hg : x.2.1.toNat < N) : 2 * stp (co + 1) h x ≤ stp co h2 x ∧ stp co h2 x ≤ 2 * stp (co + 1) h x + 1 := by
  have h1 := bit_more x.2.2.2 co
  unfold stp
  rw [e _ hf, e _ hg]
  omega
/-- What flows through pipes up to c that are too steep is taken back. -/
def tooB (co : Nat) (h fl : Nat → Int) (k : Nat) (x : Pi) : Bool := decide (0 < fl k) && decide (0 < stp co h x)
def cutF (l : List Pi) (co : Nat) (h fl : Nat → Int) (c : Nat) : Nat → Int := fun k => if k < c then (match l[k]? with | some x => if tooB co h fl k x = true then 0 else fl k | none => fl k) else fl k
theorem cutF_zero : cutF l co h fl 0 = fl := by funext k; simp [cutF]
theorem cutF_at (c : Nat) : cutF l co h fl c c = fl c := by simp [cutF]
theorem cutF_skip {c : Nat} (hx : l[c]? = some x) (hb : tooB co h fl c x = false) : cutF l co h fl (c + 1) = cutF l co h fl c := by
  funext k
  unfold cutF
  by_cases e : k = c
  · subst e
    rw [if_pos (by omega), if_neg (by omega), hx]
    simp [hb]
  · by_cases e2 : k < c
    · rw [if_pos (by omega), if_pos e2]
    · rw [if_neg (by omega), if_neg e2]
theorem cutF_take {c : Nat} (hx : l[c]? = some x) (hb : tooB co h fl c x = true) : cutF l co h fl (c + 1) = fun k => if k = c then 0 else cutF l co h fl c k := by
  funext k
  unfold cutF
  by_cases e : k = c
  · subst e
    rw [if_pos (by omega), hx]
    simp [hb]
  · rw [if_neg e]
    by_cases e2 : k < c
    · rw [if_pos (by omega), if_pos e2]
    · rw [if_neg (by omega), if_neg e2]
theorem brings_other {n : Nat} {z : Int} (i : Int) (y : Pi) (e : n ≠ k) : brings (fun j => if j = k then z else fl j) i n y = brings fl i n y := by simp only [brings, e, if_false]
theorem brings_same {z : Int} (i : Int) (y : Pi) : brings (fun j => if j = k then z else fl j) i k y = brings fl i k y + ((if y.2.1 = i then z - fl k else 0) - (if y.1 = i then z - fl k else 0)) := by
  simp only [brings, if_true]
  split <;> split <;> omega
/-- One pipe's flow is changed: what that brings. -/
theorem netTo_set (i : Int) (hx : l[k]? = some x) (z : Int) : ∀ n, netTo l (fun j => if j = k then z else fl j) i n = netTo l fl i n + (if k < n then (if x.2.1 = i then z - fl k else 0) - (if x.1 = i then z - fl k else 0) else 0)
  | 0 => by simp [netTo, sumP]
  | n + 1 => by
    have ih := netTo_set i hx z n
    unfold netTo at ih ⊢
    rw [sumP, sumP, ih]
    cases hy : l[n]? with
    | none =>
      have : n ≠ k := fun e => by subst e; rw [hx] at hy; cases hy
      simp only
      by_cases e2 : k < n
      · rw [if_pos e2, if_pos (show k < n + 1 by omega)]; omega
      · rw [if_neg e2, if_neg (show ¬ k < n + 1 by omega)]
    | some y =>
      simp only
      by_cases e : n = k
      · subst e
        rw [hx] at hy
        cases hy
        rw [if_neg (show ¬ n < n by omega), if_pos (show n < n + 1 by omega), brings_same]
        omega
      · rw [brings_other i y e]
        by_cases e2 : k < n
        · rw [if_pos e2, if_pos (show k < n + 1 by omega)]; omega
        · rw [if_neg e2, if_neg (show ¬ k < n + 1 by omega)]; omega
/-- What stays, where the flow through pipe k is taken back. -/
def moved (st : Nat → Int) (f g : Nat) (z : Int) : Nat → Int := fun i => st i + (if i = f then z else 0) - (if i = g then z else 0)
theorem Bal.take (hb : Bal l N s t want fl st) (hx : l[k]? = some x) {f g : Nat} (hf : x.1 = (f : Int)) (hg : x.2.1 = (g : Int)) : Bal l N s t want (fun j => if j = k then 0 else fl j) (moved st f g (fl k)) := fun i hi => by
  have e := netTo_set (fl := fl) (i : Int) hx 0 l.length
  have hk := (List.getElem?_eq_some_iff.1 hx).1
  have h1 := hb i hi
  rw [if_pos hk, hf, hg] at e
  have a1 : ((f : Int) = (i : Int)) ↔ i = f := by omega
  have a2 : ((g : Int) = (i : Int)) ↔ i = g := by omega
  simp only [a1, a2] at e
  unfold moved
  rw [e]
  split <;> split <;> (split at e <;> omega)
/-- Behind a refinement. -/
theorem ST.refine (hs : ST l N s t want (co + 1) fl h st) (hn : NetK l N s t want L) (e : ∀ i, i < N → h2 i = 2 * h i) (hb : Bal l N s t want (cutF l co h2 fl l.length) st2) : ST l N s t want co (cutF l co h2 fl l.length) h2 st2 := by
  refine ⟨fun k x hx => ?_, fun k x hx => ?_, hb⟩
  · have hk := (List.getElem?_eq_some_iff.1 hx).1
    have h1 := hs.cap k x hx
    unfold cutF
    rw [if_pos hk, hx]
    simp only
    split <;> omega
  · have hk := (List.getElem?_eq_some_iff.1 hx).1
    obtain ⟨f, g, hf, hg, hfN, hgN⟩ := hn.ends hx
    have hc := hs.cheap k x hx
    have hfn := stp_finer (x := x) (h := h) co e (by rw [hf]; simpa using hfN) (by rw [hg]; simpa using hgN)
    have h1 := hs.cap k x hx
    unfold cutF
    rw [if_pos hk, hx]
    simp only
    cases hb : tooB co h2 fl k x with
    | true =>
      simp only [tooB, Bool.and_eq_true, decide_eq_true_eq] at hb
      simp only [if_true]
      omega
    | false =>
      simp only [tooB, Bool.and_eq_false_iff, decide_eq_false_iff_not] at hb
      simp only [Bool.false_eq_true, if_false]
      omega
end Go.Proofs.Ytbenmebmfihleaa
end
section
/- Phases: how far all may be lifted; where it can't come; what holds at last. (Plain mathematics.) -/
namespace Go.Proofs.Ytbenmebmfihleaa

variable {l : List Pi} {N s t k u v co : Nat} {fl fl2 f0 h h0 h2 st st2 d : Nat → Int} {x : Pi} {L : Nat → List La} {a : La} {m want T ne R : Int}
/-- A flow that does what is wanted, nearly cheap at the heights h0. -/
structure Ref (l : List Pi) (N s t : Nat) (want : Int) (co : Nat) (f0 h0 : Nat → Int) : Prop where
  cap : Capd l f0
  done : ∀ i, i < N → duty s t want i + netTo l f0 (i : Int) l.length = 0
  near : ∀ (k : Nat) (x : Pi), l[k]? = some x → (0 < f0 k → stp co h0 x ≤ 1) ∧ (f0 k < x.2.2.1 → 0 ≤ stp co h0 x)
/-- How far all have been lifted since h0. -/
structure Up (N : Nat) (h0 h st : Nat → Int) (T : Int) : Prop where
  t0 : 0 ≤ T
  lo : ∀ i, i < N → h0 i ≤ h i ∧ h i ≤ h0 i + T
  exc : ∀ i, i < N → 0 < st i → h i = h0 i
  def_ : ∀ i, i < N → st i < 0 → h i = h0 i + T
/-- What stays becomes less, on either side. -/
def Shr (N : Nat) (st st2 : Nat → Int) : Prop := ∀ i, i < N → (0 ≤ st i → 0 ≤ st2 i ∧ st2 i ≤ st i) ∧ (st i ≤ 0 → st i ≤ st2 i ∧ st2 i ≤ 0)
theorem Shr.refl (N : Nat) (st : Nat → Int) : Shr N st st := fun _ _ => ⟨fun h => ⟨h, Int.le_refl _⟩, fun h => ⟨Int.le_refl _, h⟩⟩
theorem Shr.trans {st3 : Nat → Int} (h1 : Shr N st st2) (h2 : Shr N st2 st3) : Shr N st st3 := fun i hi => by
  have a := h1 i hi
  have b := h2 i hi
  omega
theorem Up.begin_ (N : Nat) (h st : Nat → Int) : Up N h h st 0 := ⟨Int.le_refl _, fun i _ => by omega, fun _ _ _ => rfl, fun _ _ _ => by omega⟩
theorem Up.shr (hu : Up N h0 h st T) (hs : Shr N st st2) : Up N h0 h st2 T :=
  ⟨hu.t0, hu.lo, fun i hi hp => hu.exc i hi (by have := hs i hi; omega), fun i hi hp => hu.def_ i hi (by have := hs i hi; omega)⟩
theorem Up.lift (hu : Up N h0 h st T) (e : ∀ i, i < N → h2 i = h i + d i) (hne : 0 ≤ ne) (hd : ∀ i, i < N → 0 ≤ d i ∧ d i ≤ ne) (hx : ∀ i, i < N → 0 < st i → d i = 0) (hy : ∀ i, i < N → st i < 0 → d i = ne) : Up N h0 h2 st (T + ne) :=
  ⟨by have := hu.t0; omega, fun i hi => by have := hu.lo i hi; have := hd i hi; have := e i hi; omega, fun i hi hp => by have := hu.exc i hi hp; have := hx i hi hp; have := e i hi; omega, fun i hi hp => by have := hu.def_ i hi hp; have := hy i hi hp; have := e i hi; omega⟩
/-- If no more flows over a set's edge than in f0, nothing stays in it that must go on. -/
theorem Ref.over (hr : Ref l N s t want co f0 h0) (hs : ST l N s t want co fl h st) (hn : NetK l N s t want L) (S : Nat → Bool) (hu : u < N) (hus : S u = true) (hpos : 0 < st u) (hS : ∀ i, i < N → S i = true → 0 ≤ st i)
    (hac : ∀ (k : Nat) (x : Pi), l[k]? = some x → (outB S x = true → f0 k ≤ fl k) ∧ (inB S x = true → fl k ≤ f0 k)) : False := by
  have e1 := hs.bal.inside hn.ok S
  have b0 : Bal l N s t want f0 (fun _ => 0) := fun i hi => (hr.done i hi).symm
  have e0 := b0.inside hn.ok S
  rw [sumN_zero (f := fun i => if S i = true then (0 : Int) else 0) (fun i _ => by split <;> rfl)] at e0
  have h1 := sumN_ge (u := u) (n := N) (f := fun i => if S i = true then st i else 0) (fun i hi => by
    split
    · rename_i e; exact hS i hi e
    · omega) hu
  simp only [hus, if_true] at h1
  have h3 : sumP l (across f0 S) l.length ≤ sumP l (across fl S) l.length := sumP_le (fun k x hx => by
    obtain ⟨a, b⟩ := hac k x hx
    unfold across
    by_cases ho : outB S x = true
    · have := a ho
      rw [if_pos ho, if_pos ho]
      by_cases hi : inB S x = true
      · have := b hi; rw [if_pos hi, if_pos hi]; omega
      · rw [if_neg hi, if_neg hi]; omega
    · rw [if_neg ho, if_neg ho]
      by_cases hi : inB S x = true
      · have := b hi; rw [if_pos hi, if_pos hi]; omega
      · rw [if_neg hi, if_neg hi]; omega) _
  omega
theorem outB_of {S : Nat → Bool} {f g : Nat} (hf : x.1 = (f : Int)) (hg : x.2.1 = (g : Int)) : outB S x = (S f && !S g) ∧ inB S x = (!S f && S g) := by
  unfold outB inB
  rw [hf, hg]
  exact ⟨rfl, rfl⟩
/-- As long as something stays all have been lifted by no more than there are nodes. -/
theorem Up.small (hu : Up N h0 h st T) (hr : Ref l N s t want co f0 h0) (hs : ST l N s t want co fl h st) (hn : NetK l N s t want L) (huN : u < N) (hpos : 0 < st u) : T ≤ (N : Int) := by
  apply Classical.byContradiction
  intro hT
  obtain ⟨v, hv, hvn⟩ := hs.bal.wants hn huN hpos
  have hu0 := hu.exc u huN hpos
  have hv0 := hu.def_ v hv hvn
  obtain ⟨g, g1, g2, hg⟩ := gap_any (N := N) (fun i => (h i - h0 i).toNat) 1
  have gv := hg v hv
  have hdef : ∀ i, i < N → st i < 0 → ¬ (h i - h0 i).toNat < g := fun i hi hp => by have := hu.def_ i hi hp; omega
  refine hr.over hs hn (fun i => decide ((h i - h0 i).toNat < g)) huN (by simp only [decide_eq_true_eq]; omega) hpos (fun i hi hS => ?_) (fun k x hx => ?_)
  · simp only [decide_eq_true_eq] at hS
    exact Int.not_lt.1 (fun hp => hdef i hi hp hS)
  · obtain ⟨f, q, hf, hq, hfN, hqN⟩ := hn.ends hx
    obtain ⟨o1, o2⟩ := outB_of (S := fun i => decide ((h i - h0 i).toNat < g)) hf hq
    have c1 := hs.cheap k x hx
    have c0 := hr.near k x hx
    have k1 := hs.cap k x hx
    have k0 := hr.cap k x hx
    have gf := hg f hfN
    have gq := hg q hqN
    have lf := hu.lo f hfN
    have lq := hu.lo q hqN
    rw [o1, o2]
    unfold stp at c1 c0
    rw [hf, hq] at c1 c0
    simp only [Int.toNat_natCast] at c1 c0
    simp only [Bool.and_eq_true, Bool.not_eq_true', decide_eq_true_eq, decide_eq_false_iff_not]
    generalize x.2.2.2 / 2 ^ co = c at c1 c0
    refine ⟨fun ⟨a, b⟩ => ?_, fun ⟨a, b⟩ => ?_⟩
    · apply Int.not_lt.1
      intro hlt
      have := c1.1 (by omega)
      have := c0.1 (by omega)
      omega
    · apply Int.not_lt.1
      intro hlt
      have := c1.2 (by omega)
      have := c0.2 (by omega)
      omega
/-- A set that is shut: nothing is left of lanes that lead out of it. -/
def Shut (l : List Pi) (N : Nat) (L : Nat → List La) (fl st : Nat → Int) (S : Nat → Bool) : Prop :=
  (∀ u, u < N → S u = true → ∀ a ∈ L u, 0 < lft l fl a → S a.2.1 = true) ∧ (∀ i, i < N → 0 < st i → S i = true) ∧ ∀ i, i < N → st i < 0 → S i = false
theorem Shut.edge {S : Nat → Bool} (hS : Shut l N L fl st S) (hn : NetK l N s t want L) (hx : l[k]? = some x) : (outB S x = true → x.2.2.1 ≤ fl k) ∧ (inB S x = true → fl k ≤ 0) := by
  obtain ⟨f, q, hf, hq, hfN, hqN⟩ := hn.ends hx
  obtain ⟨o1, o2⟩ := outB_of (S := S) hf hq
  obtain ⟨l1, l2⟩ := hn.lanes.all k x f q hx hf hq
  rw [o1, o2]
  simp only [Bool.and_eq_true, Bool.not_eq_true']
  refine ⟨fun ⟨a, b⟩ => ?_, fun ⟨a, b⟩ => ?_⟩
  · apply Int.not_lt.1
    intro hlt
    have := hS.1 f hfN a _ l1 (by simp only [lft, room_of hx, Bool.false_eq_true, if_false]; omega)
    simp only at this
    rw [b] at this
    cases this
  · apply Int.not_lt.1
    intro hlt
    have := hS.1 q hqN b _ l2 (by simp only [lft, if_true]; omega)
    simp only at this
    rw [a] at this
    cases this
theorem Ref.open_ {S : Nat → Bool} (hr : Ref l N s t want co f0 h0) (hs : ST l N s t want co fl h st) (hn : NetK l N s t want L) (hS : Shut l N L fl st S) (hu : u < N) (hpos : 0 < st u) : False :=
  hr.over hs hn S hu (hS.2.1 u hu hpos) hpos (fun i hi hSi => Int.not_lt.1 (fun hp => by have := hS.2.2 i hi hp; rw [hSi] at this; cases this)) (fun k x hx => by
    obtain ⟨a, b⟩ := hS.edge hn hx
    have k0 := hr.cap k x hx
    exact ⟨fun h => by have := a h; omega, fun h => by have := b h; omega⟩)
/-- Where it can't come: not so much goes through a cut. -/
theorem Shut.short {S : Nat → Bool} (hS : Shut l N L fl st S) (hs : ST l N s t want co fl h st) (hn : NetK l N s t want L) (hu : u < N) (hpos : 0 < st u) : Short l s t want := by
  have e := hs.bal.inside hn.ok S
  have h1 := sumN_ge (u := u) (n := N) (f := fun i => if S i = true then st i else 0) (fun i hi => by
    split
    · rename_i e; exact Int.not_lt.1 (fun hp => by have := hS.2.2 i hi hp; rw [e] at this; cases this)
    · omega) hu
  simp only [hS.2.1 u hu hpos, if_true] at h1
  have e2 : sumP l (across fl S) l.length = capOut l S l.length := sumP_congr (fun k x hx => by
    obtain ⟨a, b⟩ := hS.edge hn hx
    have k1 := hs.cap k x hx
    obtain ⟨f, q, hf, hq, hfN, hqN⟩ := hn.ends hx
    obtain ⟨o1, o2⟩ := outB_of (S := S) hf hq
    unfold across
    by_cases ho : outB S x = true
    · have := a ho
      have hi : ¬ inB S x = true := by rw [o1] at ho; rw [o2]; simp at ho ⊢; simp [ho]
      rw [if_pos ho, if_pos ho, if_neg hi]; omega
    · rw [if_neg ho, if_neg ho]
      by_cases hi : inB S x = true
      · have := b hi; rw [if_pos hi]; omega
      · rw [if_neg hi]; rfl) _
  have e3 : 0 ≤ capOut l S l.length := sumP_nonneg (fun k x hx => by have := hs.cap k x hx; split <;> omega) _
  rw [sumN_two hn.stn hn.sN hn.tN (f := fun i => if S i = true then duty s t want i else 0) (fun i _ h1 h2 => by simp [duty, h1, h2]), e2] at e
  have d1 : duty s t want s = want := by simp [duty]
  have d2 : duty s t want t = -want := by unfold duty; rw [if_neg (fun e => hn.stn e.symm), if_pos rfl]
  rw [d1, d2] at e
  have hw := hn.w0
  refine ⟨S, ?_, ?_, ?_⟩
  · cases hSs : S s with
    | true => rfl
    | false => rw [hSs] at e; simp only [Bool.false_eq_true, if_false] at e; split at e <;> omega
  · cases hSt : S t with
    | false => rfl
    | true => rw [hSt] at e; simp only [if_true] at e; split at e <;> omega
  · split at e <;> split at e <;> omega
/-- The flow of the phase ahead is nearly cheap. -/
theorem ST.ref (hs : ST l N s t want (co + 1) fl h st) (hn : NetK l N s t want L) (h0 : ∀ i, i < N → st i = 0) (e : ∀ i, i < N → h2 i = 2 * h i) : Ref l N s t want co fl h2 :=
  ⟨hs.cap, fun i hi => by rw [← hs.bal i hi]; exact h0 i hi, fun k x hx => by
    obtain ⟨f, g, hf, hg, hfN, hgN⟩ := hn.ends hx
    have hc := hs.cheap k x hx
    have hfn := stp_finer (x := x) (h := h) co e (by rw [hf]; simpa using hfN) (by rw [hg]; simpa using hgN)
    omega⟩
/-! ### At last -/
def laid (h : Nat → Int) (s t : Nat) : Nat → Int := fun i => min (h i) (h t) - h s
theorem ST.flow (hs : ST l N s t want co fl h st) (hn : NetK l N s t want L) (h0 : ∀ i, i < N → st i = 0) : IsFlow l N fl s t ∧ want = netTo l fl (t : Int) l.length := by
  have e : ∀ i, i < N → duty s t want i + netTo l fl (i : Int) l.length = 0 := fun i hi => by rw [← hs.bal i hi]; exact h0 i hi
  have et := e t hn.tN
  have d2 : duty s t want t = -want := by unfold duty; rw [if_neg (fun e => hn.stn e.symm), if_pos rfl]
  rw [d2] at et
  refine ⟨⟨hs.cap, fun i hi h1 h2 => ?_, by have := hn.w0; omega⟩, by omega⟩
  have := e i hi
  simp only [duty, h1, h2, if_false] at this
  omega
/-- Above the last one nothing flows in or out. -/
theorem ST.above (hs : ST l N s t want 0 fl h st) (hn : NetK l N s t want L) (h0 : ∀ i, i < N → st i = 0) {th : Int} (hth : h t ≤ th) :
    (th < h s → want = 0) ∧ ∀ (k : Nat) (x : Pi), l[k]? = some x → inB (fun i => decide (th < h i)) x = true → fl k = 0 := by
  let S : Nat → Bool := fun i => decide (th < h i)
  have e := hs.bal.inside hn.ok S
  rw [sumN_zero (f := fun i => if S i = true then st i else 0) (fun i hi => by simp only [h0 i hi]; split <;> rfl)] at e
  rw [sumN_two hn.stn hn.sN hn.tN (f := fun i => if S i = true then duty s t want i else 0) (fun i _ h1 h2 => by simp [duty, h1, h2])] at e
  have hSt : S t = false := by simp only [S, decide_eq_false_iff_not]; omega
  have d1 : duty s t want s = want := by simp [duty]
  rw [hSt, d1] at e
  simp only [Bool.false_eq_true, if_false] at e
  have hac : ∀ (k : Nat) (x : Pi), l[k]? = some x → 0 ≤ - across fl S k x := fun k x hx => by
    obtain ⟨f, q, hf, hq, hfN, hqN⟩ := hn.ends hx
    obtain ⟨o1, o2⟩ := outB_of (S := S) hf hq
    have k1 := hs.cap k x hx
    have c1 := (hs.cheap k x hx).2
    have cc := hn.cost x (List.mem_of_getElem? hx)
    rw [stp_zero] at c1
    unfold steep at c1
    rw [hf, hq] at c1
    simp only [Int.toNat_natCast] at c1
    unfold across
    by_cases ho : outB S x = true
    · have ho2 := ho
      rw [o1] at ho2
      simp only [S, Bool.and_eq_true, Bool.not_eq_true', decide_eq_true_eq, decide_eq_false_iff_not] at ho2
      have : ¬ 0 < fl k := fun hp => by have := c1 hp; omega
      rw [if_pos ho]
      split <;> omega
    · rw [if_neg ho]
      split <;> omega
  have hsum := sumP_nonneg hac l.length
  have en : sumP l (fun k x => - across fl S k x) l.length = - sumP l (across fl S) l.length := sumP_neg l _ _
  have hw := hn.w0
  have hz : (S s = true → want = 0) ∧ sumP l (fun k x => - across fl S k x) l.length = 0 := by
    rw [en] at hsum ⊢
    cases hSs : S s with
    | true => rw [hSs] at e; simp only [if_true] at e; exact ⟨fun _ => by omega, by omega⟩
    | false => rw [hSs] at e; simp only [Bool.false_eq_true, if_false] at e; exact ⟨(fun h => nomatch h), by omega⟩
  refine ⟨fun h => hz.1 (by simpa [S] using h), fun k x hx hin => ?_⟩
  have h1 := sumP_none hac l.length hz.2 k x (List.getElem?_eq_some_iff.1 hx).1 hx
  obtain ⟨f, q, hf, hq, hfN, hqN⟩ := hn.ends hx
  obtain ⟨o1, o2⟩ := outB_of (S := S) hf hq
  have ho : ¬ outB S x = true := by
    change inB S x = true at hin
    rw [o2] at hin; rw [o1]; simp at hin ⊢; simp [hin]
  unfold across at h1
  rw [if_neg ho, if_pos (show inB S x = true from hin)] at h1
  omega
theorem ST.final (hs : ST l N s t want 0 fl h st) (hn : NetK l N s t want L) (h0 : ∀ i, i < N → st i = 0) (hb : ∀ i, i < N → 0 ≤ h i ∧ h i ≤ 8796093022208) (hz : want = 0 → ∀ i, i < N → h i = 0) :
    IsLeast l N fl (laid h s t) s t want (costP l fl l.length) ∧ laid h s t s = 0 ∧ ∀ i, i < N → laid h s t i ≤ laid h s t t := by
  obtain ⟨f1, f2⟩ := hs.flow hn h0
  have hst : h s ≤ h t := by
    apply Int.not_lt.1
    intro hlt
    have hw := (hs.above hn h0 (Int.le_refl (h t))).1 hlt
    have h1 := hz hw s hn.sN
    have h2 := hz hw t hn.tN
    omega
  refine ⟨⟨f1, f2, fun k x hx => ?_, fun i hi => ?_, rfl⟩, ?_, fun i _ => ?_⟩
  · obtain ⟨f, q, hf, hq, hfN, hqN⟩ := hn.ends hx
    have k1 := hs.cap k x hx
    have c1 := hs.cheap k x hx
    have cc := hn.cost x (List.mem_of_getElem? hx)
    have hab := fun (hh : h t ≤ h q - 1) => (hs.above hn h0 hh).2 k x hx
    obtain ⟨o1, o2⟩ := outB_of (S := fun i => decide (h q - 1 < h i)) hf hq
    rw [o2] at hab
    rw [stp_zero] at c1
    unfold steep at c1 ⊢
    rw [hf, hq] at c1 ⊢
    simp only [Int.toNat_natCast, Bool.and_eq_true, Bool.not_eq_true', decide_eq_true_eq, decide_eq_false_iff_not] at c1 hab ⊢
    unfold laid
    refine ⟨fun hlt => ?_, fun hp => ?_⟩
    · have := c1.1 hlt
      omega
    · have := c1.2 hp
      by_cases hh : h t ≤ h q - 1
      · by_cases h3 : h q - 1 < h f
        · omega
        · have := hab hh ⟨h3, by omega⟩
          omega
      · omega
  · have h1 := hb i hi
    have h2 := hb s hn.sN
    have h3 := hb t hn.tN
    unfold laid
    omega
  · unfold laid; omega
  · unfold laid; omega
end Go.Proofs.Ytbenmebmfihleaa
end
section
/- By how few flat lanes one comes to where something must come. (Plain mathematics.) -/
namespace Go.Proofs.Ytbenmebmfihleaa

variable {l : List Pi} {N s t k u v r c co : Nat} {fl h st sp : Nat → Int} {x : Pi} {L : Nat → List La} {a : La} {m want T ne R : Int} {P q : List Nat}
/-- May more be sent through a lane, and is it flat? -/
def opn (l : List Pi) (co : Nat) (h fl : Nat → Int) (a : La) : Bool := decide (rise l co h a = 0) && decide (0 < lft l fl a)
theorem opn_true : opn l co h fl a = true ↔ rise l co h a = 0 ∧ 0 < lft l fl a := by simp [opn]
/-- The lane's other way, from its end. -/
def back (u : Nat) (a : La) : La := (a.1, u, !a.2.2)
theorem opn_to {k v u : Nat} {b : Bool} : opn l co h fl (k, v, b) = opn l co h fl (k, u, b) := rfl
theorem opn_back : opn l co h fl (back v (back u a)) = opn l co h fl a := by
  obtain ⟨k, w, b⟩ := a
  simp only [back, Bool.not_not]
  exact opn_to
/-- P is done, q is to be done, the first r lanes of its head are done. -/
structure Cnt (l : List Pi) (N : Nat) (L : Nat → List La) (co : Nat) (h fl st : Nat → Int) (sp : Nat → Int) (P q : List Nat) (r : Nat) : Prop where
  nd : (P ++ q).Nodup
  lt : ∀ i ∈ P ++ q, i < N
  mem : ∀ i, i < N → (sp i = -1 ∧ i ∉ P ++ q) ∨ (0 ≤ sp i ∧ i ∈ P ++ q)
  idx : ∀ (j i : Nat), (P ++ q)[j]? = some i → sp i ≤ (j : Int)
  src : ∀ i, i < N → st i < 0 → sp i = 0
  zero : ∀ i, i < N → sp i = 0 → st i < 0
  down : ∀ i, i < N → 0 < sp i → ∃ a ∈ L i, opn l co h fl a = true ∧ sp a.2.1 = sp i - 1
  closed : ∀ v ∈ P, ∀ a ∈ L v, opn l co h fl (back v a) = true → 0 ≤ sp a.2.1
  part : ∀ c q2, q = c :: q2 → ∀ a ∈ (L c).take r, opn l co h fl (back c a) = true → 0 ≤ sp a.2.1
/-- At first: those where something must come, up to c. -/
def firstS (st sp : Nat → Int) (c : Nat) : Nat → Int := fun i => if i < c then (if st i < 0 then 0 else -1) else sp i
def firstQ (st : Nat → Int) (c : Nat) : List Nat := (List.range c).filter (fun i => decide (st i < 0))
theorem firstS_zero : firstS st sp 0 = sp := by funext i; simp [firstS]
theorem firstS_step (c : Nat) : firstS st sp (c + 1) = fun i => if i = c then (if st c < 0 then 0 else -1) else firstS st sp c i := by
  funext i
  unfold firstS
  by_cases e : i = c
  · subst e; rw [if_pos (by omega), if_pos rfl]
  · rw [if_neg e]
    by_cases e2 : i < c
    · rw [if_pos e2, if_pos (by omega)]
    · rw [if_neg e2, if_neg (by omega)]
theorem firstQ_yes (hc : st c < 0) : firstQ st (c + 1) = firstQ st c ++ [c] := by simp [firstQ, List.range_succ, List.filter_append, hc]
theorem firstQ_no (hc : ¬ st c < 0) : firstQ st (c + 1) = firstQ st c := by simp [firstQ, List.range_succ, List.filter_append, hc]
theorem firstQ_len (st : Nat → Int) (c : Nat) : (firstQ st c).length ≤ c := by
  have := List.length_filter_le (fun i => decide (st i < 0)) (List.range c)
  simpa [firstQ] using this
theorem firstQ_mem {i : Nat} : i ∈ firstQ st c ↔ i < c ∧ st i < 0 := by simp [firstQ]
theorem Cnt.begin_ (l : List Pi) (L : Nat → List La) (co : Nat) (h fl st sp : Nat → Int) : Cnt l N L co h fl st (firstS st sp N) [] (firstQ st N) 0 := by
  have e : ∀ i, i < N → firstS st sp N i = if st i < 0 then 0 else -1 := fun i hi => if_pos hi
  refine ⟨?_, fun i hi => ?_, fun i hi => ?_, fun j i hj => ?_, fun i hi hp => ?_, fun i hi hp => ?_, fun i hi hp => ?_, fun v hv => (nomatch hv), fun c q2 _ a ha => ?_⟩
  · simp only [List.nil_append]
    exact List.Pairwise.filter _ List.nodup_range
  · simp only [List.nil_append] at hi
    exact (firstQ_mem.1 hi).1
  · simp only [List.nil_append]
    rw [e i hi, firstQ_mem]
    split <;> omega
  · simp only [List.nil_append] at hj
    have := firstQ_mem.1 (List.mem_of_getElem? hj)
    rw [e i this.1, if_pos this.2]
    omega
  · rw [e i hi, if_pos hp]
  · rw [e i hi] at hp
    split at hp <;> omega
  · rw [e i hi] at hp
    split at hp <;> omega
  · rw [List.take_zero] at ha; exact nomatch ha
theorem Cnt.skip (H : Cnt l N L co h fl st sp P q r) {q2 : List Nat} (hq : q = c :: q2) (ha : (L c)[r]? = some a) (hb : 0 ≤ sp a.2.1 ∨ opn l co h fl (back c a) = false) : Cnt l N L co h fl st sp P q (r + 1) := by
  refine ⟨H.nd, H.lt, H.mem, H.idx, H.src, H.zero, H.down, H.closed, fun c2 q3 e b hb2 hob => ?_⟩
  have e2 : c2 = c := by rw [hq] at e; injection e with e1 _; exact e1.symm
  subst e2
  rw [List.take_add_one, ha, List.mem_append] at hb2
  rcases hb2 with hb2 | hb2
  · exact H.part c2 q3 e b hb2 hob
  · simp only [Option.toList_some, List.mem_singleton] at hb2
    subst hb2
    rcases hb with hb | hb
    · exact hb
    · rw [hb] at hob; cases hob
theorem Cnt.found (H : Cnt l N L co h fl st sp P q r) (hl : LanesK l N L) {q2 : List Nat} (hq : q = c :: q2) (ha : (L c)[r]? = some a) (hn : sp a.2.1 < 0) (ho : opn l co h fl (back c a) = true) :
    Cnt l N L co h fl st (fun i => if i = a.2.1 then sp c + 1 else sp i) P (q ++ [a.2.1]) (r + 1) := by
  have hcm : c ∈ P ++ q := by rw [hq]; simp
  have hcN := H.lt c hcm
  have ham := List.mem_of_getElem? ha
  obtain ⟨_, _, _, hv⟩ := hl.lane hcN ham
  have hnew : a.2.1 ∉ P ++ q := fun m => by
    rcases H.mem a.2.1 hv with ⟨_, m2⟩ | ⟨m2, _⟩
    · exact m2 m
    · omega
  have hc0 : 0 ≤ sp c := by
    rcases H.mem c hcN with ⟨_, m2⟩ | ⟨m2, _⟩
    · exact absurd hcm m2
    · exact m2
  have hne : ∀ i ∈ P ++ q, i ≠ a.2.1 := fun i hi e => by subst e; exact hnew hi
  have hold : ∀ i ∈ P ++ q, (if i = a.2.1 then sp c + 1 else sp i) = sp i := fun i hi => by rw [if_neg (hne i hi)]
  have hap : P ++ (q ++ [a.2.1]) = (P ++ q) ++ [a.2.1] := by rw [List.append_assoc]
  have hup : ∀ b : La, 0 ≤ sp b.2.1 → 0 ≤ (if b.2.1 = a.2.1 then sp c + 1 else sp b.2.1) := fun b hb => by split <;> omega
  refine ⟨?_, fun i hi => ?_, fun i hi => ?_, fun j i hj => ?_, fun i hi hp => ?_, fun i hi hp => ?_, fun i hi hp => ?_, fun v hv b hb hob => hup b (H.closed v hv b hb hob), fun c3 q3 e b hb2 hob => ?_⟩
  · rw [hap, List.nodup_append]
    refine ⟨H.nd, by simp, fun x hx y hy => ?_⟩
    simp at hy
    subst hy
    exact hne x hx
  · rw [hap, List.mem_append] at hi
    rcases hi with hi | hi
    · exact H.lt i hi
    · simp at hi; subst hi; exact hv
  · rw [hap, List.mem_append]
    by_cases e : i = a.2.1
    · right; subst e; simp; omega
    · rw [if_neg e]
      rcases H.mem i hi with ⟨m1, m2⟩ | ⟨m1, m2⟩
      · left; exact ⟨m1, fun m => by
          rcases m with m | m
          · exact m2 m
          · simp at m; exact e m⟩
      · exact .inr ⟨m1, .inl m2⟩
  · rw [hap, List.getElem?_append] at hj
    split at hj
    · rw [hold i (List.mem_of_getElem? hj)]; exact H.idx j i hj
    · rename_i hlen
      have hj0 : j - (P ++ q).length = 0 := by
        have := (List.getElem?_eq_some_iff.1 hj).1
        simp only [List.length_singleton] at this
        omega
      rw [hj0] at hj
      simp at hj
      subst hj
      rw [if_pos rfl]
      have hPl : sp c ≤ (P.length : Int) := H.idx P.length c (by rw [hq]; simp)
      have : P.length + 1 ≤ (P ++ q).length := by rw [hq]; simp
      omega
  · have := H.src i hi hp
    rw [if_neg (fun e => by rw [e] at this; omega)]
    exact this
  · split at hp
    · omega
    · exact H.zero i hi hp
  · by_cases e : i = a.2.1
    · subst e
      refine ⟨back c a, hl.turn hcN ham, ho, ?_⟩
      show (if c = a.2.1 then sp c + 1 else sp c) = (if a.2.1 = a.2.1 then sp c + 1 else sp a.2.1) - 1
      rw [if_neg (hne c hcm), if_pos rfl]
      omega
    · rw [if_neg e] at hp ⊢
      obtain ⟨b, hb, hob, hsb⟩ := H.down i hi hp
      refine ⟨b, hb, hob, ?_⟩
      rw [if_neg (fun e2 => by rw [e2] at hsb; omega)]
      exact hsb
  · have e2 : c3 = c := by rw [hq] at e; injection e with e1 _; exact e1.symm
    subst e2
    rw [List.take_add_one, ha, List.mem_append] at hb2
    rcases hb2 with hb2 | hb2
    · exact hup b (H.part c3 q2 hq b hb2 hob)
    · simp only [Option.toList_some, List.mem_singleton] at hb2
      subst hb2
      rw [if_pos rfl]
      omega
theorem Cnt.next (H : Cnt l N L co h fl st sp P q r) {q2 : List Nat} (hq : q = c :: q2) (hr : (L c).length ≤ r) : Cnt l N L co h fl st sp (P ++ [c]) q2 0 := by
  have hap : (P ++ [c]) ++ q2 = P ++ q := by rw [hq]; simp
  refine ⟨by rw [hap]; exact H.nd, fun i hi => H.lt i (by rw [hap] at hi; exact hi), fun i hi => by rw [hap]; exact H.mem i hi, fun j i hj => by rw [hap] at hj; exact H.idx j i hj, H.src, H.zero, H.down, fun u hu b hb hob => ?_, fun c3 q3 _ b hb => (by rw [List.take_zero] at hb; exact nomatch hb)⟩
  rw [List.mem_append] at hu
  rcases hu with hu | hu
  · exact H.closed u hu b hb hob
  · simp at hu
    subst hu
    exact H.part u q2 hq b (by rw [List.take_of_length_le hr]; exact hb) hob
theorem Cnt.len (H : Cnt l N L co h fl st sp P q r) : P.length + q.length ≤ N := by
  have := nodup_leB N (P ++ q) H.nd H.lt
  rwa [List.length_append] at this
/-- The steps of all nodes. -/
structure Stp (l : List Pi) (N : Nat) (L : Nat → List La) (co : Nat) (h fl st : Nat → Int) (sp : Nat → Int) : Prop where
  small : ∀ i, i < N → -1 ≤ sp i ∧ sp i < (N : Int)
  src : ∀ i, i < N → st i < 0 → sp i = 0
  zero : ∀ i, i < N → sp i = 0 → st i < 0
  down : ∀ i, i < N → 0 < sp i → ∃ a ∈ L i, opn l co h fl a = true ∧ sp a.2.1 = sp i - 1
  closed : ∀ u, u < N → ∀ a ∈ L u, opn l co h fl a = true → 0 ≤ sp a.2.1 → 0 ≤ sp u
theorem Cnt.small (H : Cnt l N L co h fl st sp P q r) {i : Nat} (hi : i < N) : -1 ≤ sp i ∧ sp i < (N : Int) := by
  rcases H.mem i hi with ⟨m, _⟩ | ⟨m, m2⟩
  · omega
  · obtain ⟨j, hj⟩ := List.getElem?_of_mem m2
    have := H.idx j i hj
    have h3 := (List.getElem?_eq_some_iff.1 hj).1
    have h4 := H.len
    rw [List.length_append] at h3
    omega
theorem Cnt.done (H : Cnt l N L co h fl st sp P [] r) (hl : LanesK l N L) : Stp l N L co h fl st sp := by
  refine ⟨fun i hi => H.small hi, H.src, H.zero, H.down, fun u hu a ha ho hs => ?_⟩
  obtain ⟨_, _, _, hv⟩ := hl.lane hu ha
  rcases H.mem a.2.1 hv with ⟨m, _⟩ | ⟨_, m2⟩
  · omega
  · rw [List.append_nil] at m2
    exact H.closed a.2.1 m2 (back u a) (hl.turn hu ha) (by rw [opn_back]; exact ho)
/-- Where one comes nowhere: a set that flat lanes don't lead out of. -/
theorem Stp.shut (H : Stp l N L co h fl st sp) (hno : ¬ ∃ i, i < N ∧ 0 < st i ∧ 0 ≤ sp i) :
    (∀ u, u < N → decide (sp u < 0) = true → ∀ a ∈ L u, opn l co h fl a = true → decide (sp a.2.1 < 0) = true) ∧ (∀ i, i < N → 0 < st i → decide (sp i < 0) = true) ∧ ∀ i, i < N → st i < 0 → decide (sp i < 0) = false := by
  refine ⟨fun u hu hs a ha ho => ?_, fun i hi hp => ?_, fun i hi hp => ?_⟩
  · simp only [decide_eq_true_eq] at hs ⊢
    apply Int.not_le.1
    intro h2
    have := H.closed u hu a ha ho h2
    omega
  · simp only [decide_eq_true_eq]
    exact Int.not_le.1 (fun h2 => hno ⟨i, hi, hp, h2⟩)
  · simp only [decide_eq_false_iff_not]
    have := H.src i hi hp
    omega
end Go.Proofs.Ytbenmebmfihleaa
end
section
/- How far nodes are from where something stays, the nearest first. (Plain mathematics.) -/
namespace Go.Proofs.Ytbenmebmfihleaa

variable {l : List Pi} {N s t u v c co r : Nat} {fl h st d : Nat → Int} {L : Nat → List La} {a : La} {R F M ne : Int} {Z dn : Nat → Bool} {Q p : List It} {x : It}
/-- How much is to be done of the nodes that aren't done. -/
def phi (N : Nat) (L : Nat → List La) (dn : Nat → Bool) : Int := sumN N (fun i => if dn i = true then 0 else ((L i).length : Int) + 1)
def mark (dn : Nat → Bool) (u : Nat) : Nat → Bool := fun i => if i = u then true else dn i
theorem phi_mark (hu : u < N) (h : dn u = false) : phi N L (mark dn u) + (((L u).length : Int) + 1) = phi N L dn := by
  unfold phi
  have e : sumN N (fun i => if dn i = true then (0 : Int) else ((L i).length : Int) + 1) = sumN N (fun i => (if mark dn u i = true then (0 : Int) else ((L i).length : Int) + 1) + (if i = u then ((L u).length : Int) + 1 else 0)) := by
    apply sumN_congr
    intro i _
    unfold mark
    by_cases e : i = u
    · subst e; simp [h]
    · simp [e]
  rw [e, sumN_add, sumN_one (s := u) (f := fun i => if i = u then ((L u).length : Int) + 1 else 0) hu (fun i _ h => by simp [h])]
  simp
theorem phi_nonneg (N : Nat) (L : Nat → List La) (dn : Nat → Bool) : 0 ≤ phi N L dn := sumN_nonneg (fun i _ => by split <;> omega)
/-- The row, what is to be done. -/
structure DijB (l : List Pi) (N : Nat) (L : Nat → List La) (co : Nat) (h fl st : Nat → Int) (R F M : Int) (Z : Nat → Bool) (d : Nat → Int) (ne : Int) (dn : Nat → Bool) (Q : List It) : Prop where
  bnd : ∀ i, i < N → d i = F ∨ (0 ≤ d i ∧ d i + phi N L dn * R ≤ M * R)
  exc : ∀ i, i < N → 0 < st i → d i = 0
  items : ∀ y ∈ Q, ∃ i : Nat, y.2 = (i : Int) ∧ i < N ∧ d i ≤ y.1 ∧ 0 ≤ y.1 ∧ y.1 < F ∧ (dn i = true → d i < y.1)
  nd : Q.Nodup
  has : ∀ i : Nat, i < N → dn i = false → d i ≠ F → (d i, (i : Int)) ∈ Q
  mono : ∀ i, i < N → dn i = true → ∀ y ∈ Q, d i ≤ y.1
  fin : ∀ i, i < N → dn i = true → d i ≠ F
  ne0 : 0 ≤ ne
  ne1 : ne ≤ F
  def_ : ∀ v, v < N → st v < 0 → ne ≤ d v
  near : ne = F ∨ ∃ v, v < N ∧ st v < 0 ∧ d v = ne
  z : ∀ i, i < N → d i = 0 → Z i = true
  lowd : ∀ i, i < N → dn i = true → d i + (phi N L dn + 1) * R ≤ M * R
structure Dij (l : List Pi) (N : Nat) (L : Nat → List La) (co : Nat) (h fl st : Nat → Int) (R F M : Int) (Z : Nat → Bool) (d : Nat → Int) (ne : Int) (dn : Nat → Bool) (Q : List It) : Prop where
  base : DijB l N L co h fl st R F M Z d ne dn Q
  lanes : ∀ u, u < N → dn u = true → ∀ a ∈ L u, 0 < lft l fl a → d a.2.1 ≤ d u + rise l co h a ∨ ne ≤ d u + rise l co h a
/-- Node u is looked at, its first r lanes are done. -/
structure Scn (l : List Pi) (N : Nat) (L : Nat → List La) (co : Nat) (h fl st : Nat → Int) (R F M : Int) (Z : Nat → Bool) (d : Nat → Int) (ne : Int) (dn : Nat → Bool) (Q : List It) (u r : Nat) : Prop where
  base : DijB l N L co h fl st R F M Z d ne dn Q
  lanes : ∀ u2, u2 < N → u2 ≠ u → dn u2 = true → ∀ a ∈ L u2, 0 < lft l fl a → d a.2.1 ≤ d u2 + rise l co h a ∨ ne ≤ d u2 + rise l co h a
  part : ∀ a ∈ (L u).take r, 0 < lft l fl a → d a.2.1 ≤ d u + rise l co h a ∨ ne ≤ d u + rise l co h a
  here : dn u = true
  last : ∀ i, i < N → dn i = true → d i ≤ d u
  low : 0 ≤ d u ∧ d u + (phi N L dn + 1) * R ≤ M * R
/-- What the search rests on. -/
structure DijE (l : List Pi) (N : Nat) (L : Nat → List La) (co : Nat) (h fl st : Nat → Int) (R F M : Int) (Z : Nat → Bool) : Prop where
  lanes : LanesK l N L
  r0 : 0 ≤ R
  m0 : M = phi N L (fun _ => false)
  big : M * R < F
  f0 : 0 < F
  rise : ∀ u, u < N → ∀ a ∈ L u, 0 < lft l fl a → 0 ≤ rise l co h a ∧ rise l co h a ≤ R
  zx : ∀ i, i < N → 0 < st i → Z i = true
  zd : ∀ i, i < N → st i < 0 → Z i = false
  zl : ∀ u, u < N → Z u = true → ∀ a ∈ L u, opn l co h fl a = true → Z a.2.1 = true
theorem DijB.perm (H : DijB l N L co h fl st R F M Z d ne dn Q) (hp : Q.Perm p) : DijB l N L co h fl st R F M Z d ne dn p :=
  ⟨H.bnd, H.exc, fun y hy => H.items y (hp.mem_iff.2 hy), hp.nodup_iff.1 H.nd, fun i hi h1 h2 => hp.mem_iff.1 (H.has i hi h1 h2), fun i hi h1 y hy => H.mono i hi h1 y (hp.mem_iff.2 hy), H.fin, H.ne0, H.ne1, H.def_, H.near, H.z, H.lowd⟩
theorem Dij.perm (H : Dij l N L co h fl st R F M Z d ne dn Q) (hp : Q.Perm p) : Dij l N L co h fl st R F M Z d ne dn p := ⟨H.base.perm hp, H.lanes⟩
/-- At first. -/
def firstD (st : Nat → Int) (F : Int) (c : Nat) : Nat → Int := fun i => if i < c ∧ 0 < st i then 0 else F
def firstI (st : Nat → Int) : Nat → List It
  | 0 => []
  | c + 1 => if 0 < st c then (0, (c : Int)) :: firstI st c else firstI st c
theorem firstD_zero : firstD st F 0 = fun _ => F := by funext i; simp [firstD]
theorem firstD_yes (hc : 0 < st c) : firstD st F (c + 1) = fun i => if i = c then 0 else firstD st F c i := by
  funext i
  unfold firstD
  by_cases e : i = c
  · subst e; rw [if_pos ⟨by omega, hc⟩, if_pos rfl]
  · rw [if_neg e]
    by_cases e2 : i < c ∧ 0 < st i
    · rw [if_pos e2, if_pos ⟨by omega, e2.2⟩]
    · rw [if_neg e2, if_neg (fun h3 => e2 ⟨by omega, h3.2⟩)]
theorem firstD_no (hc : ¬ 0 < st c) : firstD st F (c + 1) = firstD st F c := by
  funext i
  unfold firstD
  by_cases e2 : i < c ∧ 0 < st i
  · rw [if_pos e2, if_pos ⟨by omega, e2.2⟩]
  · rw [if_neg e2, if_neg (fun h3 => by
      by_cases e : i = c
      · subst e; exact hc h3.2
      · exact e2 ⟨by omega, h3.2⟩)]
theorem firstI_yes (hc : 0 < st c) : firstI st (c + 1) = (0, (c : Int)) :: firstI st c := by rw [firstI, if_pos hc]
theorem firstI_no (hc : ¬ 0 < st c) : firstI st (c + 1) = firstI st c := by rw [firstI, if_neg hc]
theorem firstI_mem : ∀ {c : Nat} {y : It}, y ∈ firstI st c ↔ ∃ i : Nat, y = (0, (i : Int)) ∧ i < c ∧ 0 < st i
  | 0, y => by simp [firstI]
  | c + 1, y => by
    by_cases hc : 0 < st c
    · rw [firstI_yes hc, List.mem_cons, firstI_mem]
      constructor
      · rintro (rfl | ⟨i, h1, h2, h3⟩)
        · exact ⟨c, rfl, by omega, hc⟩
        · exact ⟨i, h1, by omega, h3⟩
      · rintro ⟨i, h1, h2, h3⟩
        by_cases e : i = c
        · subst e; exact .inl h1
        · exact .inr ⟨i, h1, by omega, h3⟩
    · rw [firstI_no hc, firstI_mem]
      constructor
      · rintro ⟨i, h1, h2, h3⟩
        exact ⟨i, h1, by omega, h3⟩
      · rintro ⟨i, h1, h2, h3⟩
        by_cases e : i = c
        · subst e; exact absurd h3 hc
        · exact ⟨i, h1, by omega, h3⟩
theorem firstI_nodup : ∀ c, (firstI st c).Nodup
  | 0 => by simp [firstI]
  | c + 1 => by
    by_cases hc : 0 < st c
    · rw [firstI_yes hc, List.nodup_cons]
      refine ⟨fun hm => ?_, firstI_nodup c⟩
      obtain ⟨i, h1, h2, _⟩ := firstI_mem.1 hm
      injection h1 with _ h3
      omega
    · rw [firstI_no hc]; exact firstI_nodup c
theorem firstI_len : ∀ c, (firstI st c).length ≤ c
  | 0 => by simp [firstI]
  | c + 1 => by
    have := firstI_len c
    by_cases hc : 0 < st c
    · rw [firstI_yes hc, List.length_cons]; omega
    · rw [firstI_no hc]; omega
theorem Dij.begin_ (E : DijE l N L co h fl st R F M Z) : Dij l N L co h fl st R F M Z (firstD st F N) F (fun _ => false) (firstI st N) := by
  have e : ∀ i, i < N → firstD st F N i = if 0 < st i then 0 else F := fun i hi => by
    unfold firstD
    by_cases h0 : 0 < st i
    · rw [if_pos ⟨hi, h0⟩, if_pos h0]
    · rw [if_neg (fun h => h0 h.2), if_neg h0]
  have hF := E.f0
  refine ⟨⟨fun i hi => ?_, fun i hi hp => ?_, fun y hy => ?_, firstI_nodup N, fun i hi _ hne => ?_, fun i _ h => (by cases h), fun i _ h => (by cases h), by omega, Int.le_refl _, fun v hv hp => ?_, .inl rfl, fun i hi h0 => ?_, fun i _ h => (by cases h)⟩, fun u _ h => (by cases h)⟩
  · rw [e i hi]
    split
    · right; have := E.m0; rw [this]; omega
    · exact .inl rfl
  · rw [e i hi, if_pos hp]
  · obtain ⟨i, rfl, h2, h3⟩ := firstI_mem.1 hy
    exact ⟨i, rfl, h2, by rw [e i h2, if_pos h3]; exact Int.le_refl _, Int.le_refl _, hF, fun h => by cases h⟩
  · rw [e i hi] at hne ⊢
    split at hne
    · rename_i h0
      rw [if_pos h0]
      exact firstI_mem.2 ⟨i, rfl, hi, h0⟩
    · exact absurd rfl hne
  · rw [e v hv, if_neg (by omega)]; exact Int.le_refl _
  · rw [e i hi] at h0
    split at h0
    · rename_i hp; exact E.zx i hi hp
    · omega
/-- A thing that was found again, nearer. -/
theorem Dij.skip (H : Dij l N L co h fl st R F M Z d ne dn (x :: p)) (hx : d x.2.toNat < x.1) : Dij l N L co h fl st R F M Z d ne dn p := by
  have B := H.base
  refine ⟨⟨B.bnd, B.exc, fun y hy => B.items y (List.mem_cons_of_mem _ hy), (List.nodup_cons.1 B.nd).2, fun i hi h1 h2 => ?_, fun i hi h1 y hy => B.mono i hi h1 y (List.mem_cons_of_mem _ hy), B.fin, B.ne0, B.ne1, B.def_, B.near, B.z, B.lowd⟩, H.lanes⟩
  rcases List.mem_cons.1 (B.has i hi h1 h2) with e | e
  · exfalso
    rw [← e] at hx
    simp at hx
  · exact e
/-- A node's lanes are begun with. -/
theorem Dij.scan (H : Dij l N L co h fl st R F M Z d ne dn (x :: p)) (E : DijE l N L co h fl st R F M Z) (hmin : ∀ y ∈ x :: p, x.1 ≤ y.1) (hx : x.1 ≤ d x.2.toNat) :
    x.2.toNat < N ∧ x.2 = (x.2.toNat : Int) ∧ d x.2.toNat = x.1 ∧ dn x.2.toNat = false ∧ Scn l N L co h fl st R F M Z d ne (mark dn x.2.toNat) p x.2.toNat 0 := by
  have B := H.base
  obtain ⟨u, hu2, huN, h1, h2, h2F, h3⟩ := B.items x (by simp)
  have hu : x.2.toNat = u := by omega
  rw [hu] at hx ⊢
  have hk : d u = x.1 := by omega
  have hdn : dn u = false := by
    cases e : dn u with
    | false => rfl
    | true => have := h3 e; omega
  have hph := phi_mark (L := L) huN hdn
  have hr := E.r0
  have hlow : 0 ≤ d u ∧ d u + (phi N L (mark dn u) + 1) * R ≤ M * R := by
    rcases B.bnd u huN with e | ⟨e1, e2⟩
    · omega
    · refine ⟨e1, ?_⟩
      have : (phi N L (mark dn u) + 1) * R ≤ phi N L dn * R := Int.mul_le_mul_of_nonneg_right (by omega) hr
      omega
  have hcase : ∀ i, mark dn u i = true → i = u ∨ dn i = true := fun i hi => by
    unfold mark at hi
    split at hi
    · left; assumption
    · exact .inr hi
  refine ⟨huN, hu2, hk, hdn, ⟨⟨fun i hi => ?_, B.exc, fun y hy => ?_, (List.nodup_cons.1 B.nd).2, fun i hi h1 h2 => ?_, fun i hi h1 y hy => ?_, fun i hi h1 => ?_, B.ne0, B.ne1, B.def_, B.near, B.z, fun i hi hd => ?_⟩, fun u2 hu2 hne hd => H.lanes u2 hu2 ?_, fun a ha => (by rw [List.take_zero] at ha; exact nomatch ha), by simp [mark], fun i hi hd => ?_, hlow⟩⟩
  · rcases B.bnd i hi with e | ⟨e1, e2⟩
    · exact .inl e
    · refine .inr ⟨e1, ?_⟩
      have : phi N L (mark dn u) * R ≤ phi N L dn * R := Int.mul_le_mul_of_nonneg_right (by omega) hr
      omega
  · obtain ⟨i, i1, i2, i3, i4, i5, i6⟩ := B.items y (List.mem_cons_of_mem _ hy)
    refine ⟨i, i1, i2, i3, i4, i5, fun hd => ?_⟩
    rcases hcase i hd with e | e
    · subst e
      by_cases e2 : d i = y.1
      · exfalso
        have : y = x := Prod.ext (by omega) (by omega)
        subst this
        exact (List.nodup_cons.1 B.nd).1 hy
      · omega
    · exact i6 e
  · have hi0 : dn i = false ∧ i ≠ u := by
      unfold mark at h1
      split at h1
      · cases h1
      · exact ⟨h1, by assumption⟩
    rcases List.mem_cons.1 (B.has i hi hi0.1 h2) with e | e
    · exfalso
      rw [← e] at hu2
      simp only at hu2
      have := hi0.2
      omega
    · exact e
  · rcases hcase i h1 with e | e
    · subst e; rw [hk]; exact hmin y (List.mem_cons_of_mem _ hy)
    · exact B.mono i hi e y (List.mem_cons_of_mem _ hy)
  · rcases hcase i h1 with e | e
    · subst e; omega
    · exact B.fin i hi e
  · rcases hcase i hd with e | e
    · subst e; exact hlow.2
    · have h1 := B.lowd i hi e
      have : (phi N L (mark dn u) + 1) * R ≤ (phi N L dn + 1) * R := Int.mul_le_mul_of_nonneg_right (by omega) hr
      omega
  · rcases hcase u2 hd with e | e
    · exact absurd e hne
    · exact e
  · rcases hcase i hd with e | e
    · subst e; exact Int.le_refl _
    · rw [hk]; exact B.mono i hi e x (by simp)
theorem Scn.skip (H : Scn l N L co h fl st R F M Z d ne dn Q u r) (ha : (L u)[r]? = some a) (hb : 0 < lft l fl a → d a.2.1 ≤ d u + rise l co h a ∨ ne ≤ d u + rise l co h a) : Scn l N L co h fl st R F M Z d ne dn Q u (r + 1) :=
  ⟨H.base, H.lanes, fun b hb2 hl => by
    rw [List.take_add_one, ha, List.mem_append] at hb2
    rcases hb2 with hb2 | hb2
    · exact H.part b hb2 hl
    · simp only [Option.toList_some, List.mem_singleton] at hb2
      subst hb2
      exact hb hl, H.here, H.last, H.low⟩
/-- A node is found, or found nearer. -/
theorem Scn.take (H : Scn l N L co h fl st R F M Z d ne dn Q u r) (E : DijE l N L co h fl st R F M Z) (hu : u < N) (ha : (L u)[r]? = some a) (hl : 0 < lft l fl a) (h1 : d u + rise l co h a < d a.2.1) (h2 : d u + rise l co h a < ne) :
    0 ≤ d u + rise l co h a ∧ Scn l N L co h fl st R F M Z (fun i => if i = a.2.1 then d u + rise l co h a else d i) (if st a.2.1 < 0 then d u + rise l co h a else ne) dn ((d u + rise l co h a, (a.2.1 : Int)) :: Q) u (r + 1) := by
  have B := H.base
  have ham := List.mem_of_getElem? ha
  obtain ⟨_, _, _, hvN⟩ := E.lanes.lane hu ham
  obtain ⟨r1, r2⟩ := E.rise u hu a ham hl
  obtain ⟨hk, hk0, hk1⟩ : ∃ k, k = d u + rise l co h a ∧ 0 ≤ k := ⟨_, rfl, by have := H.low.1; omega⟩
  have hz : hk = 0 → Z a.2.1 = true := fun e => by
    have hzu : Z u = true := B.z u hu (by have := H.low.1; omega)
    exact E.zl u hu hzu a ham (opn_true.2 ⟨by have := H.low.1; omega, hl⟩)
  have hkR : hk + phi N L dn * R ≤ M * R := by
    have := H.low.2
    rw [Int.add_mul, Int.one_mul] at this
    omega
  rw [← hk0] at h1 h2 ⊢
  refine ⟨hk1, ?_⟩
  obtain ⟨v, hv⟩ : ∃ v, v = a.2.1 := ⟨_, rfl⟩
  rw [← hv] at h1 hvN hz ⊢
  have hdv : dn v = false := by
    cases e : dn v with
    | false => rfl
    | true => have := H.last v hvN e; omega
  have huv : u ≠ v := fun e => by subst e; rw [H.here] at hdv; cases hdv
  have hpR : 0 ≤ phi N L dn * R := Int.mul_nonneg (phi_nonneg N L dn) E.r0
  have hbig := E.big
  have hFk : hk < F := by omega
  have hle : ∀ i, (if i = v then hk else d i) ≤ d i := fun i => by split <;> (rename_i e; first | (subst e; omega) | omega)
  have hne2 : (if st v < 0 then hk else ne) ≤ ne := by split <;> omega
  have hold : ∀ i, dn i = true → (if i = v then hk else d i) = d i := fun i hi => if_neg (fun e => by subst e; rw [hi] at hdv; cases hdv)
  have hstep : ∀ (b : La) (k : Int), (d b.2.1 ≤ k ∨ ne ≤ k) → (if b.2.1 = v then hk else d b.2.1) ≤ k ∨ (if st v < 0 then hk else ne) ≤ k := fun b k hb => by
    rcases hb with hb | hb
    · left; have := hle b.2.1; omega
    · right; omega
  refine ⟨⟨fun i hi => ?_, fun i hi hp => ?_, fun y hy => ?_, ?_, fun i hi e1 e2 => ?_, fun i hi e1 y hy => ?_, fun i hi e1 => ?_, ?_, ?_, fun w hw hp => ?_, ?_, fun i hi e0 => ?_, fun i hi hd => (by rw [hold i hd]; exact B.lowd i hi hd)⟩, fun u2 hu2 hne hd b hb hlb => ?_, fun b hb2 hlb => ?_, H.here, fun i hi hd => ?_, ?_⟩
  · by_cases e : i = v
    · rw [if_pos e]; exact .inr ⟨hk1, hkR⟩
    · rw [if_neg e]; exact B.bnd i hi
  · have h0 := B.exc i hi hp
    by_cases e : i = v
    · exfalso; subst e; omega
    · rw [if_neg e]; exact h0
  · rcases List.mem_cons.1 hy with e | e
    · subst e
      exact ⟨v, rfl, hvN, by rw [if_pos rfl]; exact Int.le_refl _, hk1, hFk, fun e => by rw [hdv] at e; cases e⟩
    · obtain ⟨i, i1, i2, i3, i4, i5, i6⟩ := B.items y e
      refine ⟨i, i1, i2, by have := hle i; omega, i4, i5, fun hd => ?_⟩
      rw [hold i hd]
      exact i6 hd
  · rw [List.nodup_cons]
    refine ⟨fun hm => ?_, B.nd⟩
    obtain ⟨i, i1, i2, i3, _⟩ := B.items _ hm
    simp only at i1 i3
    have : i = v := by omega
    subst this
    omega
  · by_cases e : i = v
    · subst e; rw [if_pos rfl]; simp
    · rw [if_neg e] at e2 ⊢
      exact List.mem_cons_of_mem _ (B.has i hi e1 e2)
  · rw [hold i e1]
    rcases List.mem_cons.1 hy with e | e
    · subst e
      have := H.last i hi e1
      simp only
      omega
    · exact B.mono i hi e1 y e
  · rw [hold i e1]; exact B.fin i hi e1
  · have := B.ne0; split <;> omega
  · have := B.ne1; omega
  · have := B.def_ w hw hp
    by_cases e : w = v
    · subst e; rw [if_pos rfl, if_pos hp]; exact Int.le_refl _
    · rw [if_neg e]; omega
  · by_cases e : st v < 0
    · rw [if_pos e]; exact .inr ⟨v, hvN, e, if_pos rfl⟩
    · rw [if_neg e]
      rcases B.near with e2 | ⟨w, hw, hp, e2⟩
      · exact .inl e2
      · exact .inr ⟨w, hw, hp, by rw [if_neg (fun e3 => by subst e3; exact e hp)]; exact e2⟩
  · by_cases e : i = v
    · subst e; rw [if_pos rfl] at e0; exact hz e0
    · rw [if_neg e] at e0; exact B.z i hi e0
  · rw [hold u2 hd]
    exact hstep b _ (H.lanes u2 hu2 hne hd b hb hlb)
  · rw [hold u H.here]
    rw [List.take_add_one, ha, List.mem_append] at hb2
    rcases hb2 with hb2 | hb2
    · exact hstep b _ (H.part b hb2 hlb)
    · simp only [Option.toList_some, List.mem_singleton] at hb2
      subst hb2
      left
      rw [if_pos hv.symm, ← hk0]
      exact Int.le_refl _
  · rw [hold i hd, hold u H.here]; exact H.last i hi hd
  · rw [hold u H.here]; exact H.low
/-- All its lanes are done. -/
theorem Scn.end_ (H : Scn l N L co h fl st R F M Z d ne dn Q u r) (hr : (L u).length ≤ r) : Dij l N L co h fl st R F M Z d ne dn Q :=
  ⟨H.base, fun u2 hu2 hd b hb hlb => by
    by_cases e : u2 = u
    · subst e; exact H.part b (by rw [List.take_of_length_le hr]; exact hb) hlb
    · exact H.lanes u2 hu2 e hd b hb hlb⟩
/-- How far all are. -/
structure FarK (l : List Pi) (N : Nat) (L : Nat → List La) (co : Nat) (h fl st : Nat → Int) (R F M : Int) (d : Nat → Int) (ne : Int) : Prop where
  nn : ∀ i, i < N → 0 ≤ d i
  exc : ∀ i, i < N → 0 < st i → d i = 0
  def_ : ∀ i, i < N → st i < 0 → ne ≤ d i
  lanes : ∀ u, u < N → ∀ a ∈ L u, 0 < lft l fl a → min (d a.2.1) ne ≤ min (d u) ne + rise l co h a
  far : ∀ i, i < N → d i = F ∨ d i ≤ M * R
  lane1 : ∀ u, u < N → ∀ a ∈ L u, 0 < lft l fl a → ne = F → d u ≠ F → d a.2.1 ≠ F
  near : ne = F ∨ ∃ v, v < N ∧ st v < 0 ∧ d v = ne
  pos : 1 ≤ ne
  le : ne ≤ F
theorem Dij.done (H : Dij l N L co h fl st R F M Z d ne dn Q) (E : DijE l N L co h fl st R F M Z) (hQ : ∀ y ∈ Q, ne ≤ y.1) : FarK l N L co h fl st R F M d ne := by
  have B := H.base
  have hF := E.f0
  have hnn : ∀ i, i < N → 0 ≤ d i := fun i hi => by
    rcases B.bnd i hi with e | ⟨e, _⟩ <;> omega
  have hfar : ∀ i, i < N → d i = F ∨ d i ≤ M * R := fun i hi => by
    rcases B.bnd i hi with e | ⟨_, e⟩
    · exact .inl e
    · have : 0 ≤ phi N L dn * R := Int.mul_nonneg (phi_nonneg N L dn) E.r0
      exact .inr (by omega)
  have hbig := E.big
  have hn1 := B.ne1
  refine ⟨hnn, B.exc, B.def_, fun u hu a ha hl => ?_, hfar, fun u hu a ha hl hnF hdu => ?_, B.near, ?_, hn1⟩
  · obtain ⟨r1, _⟩ := E.rise u hu a ha hl
    cases e : dn u with
    | true =>
      rcases H.lanes u hu e a ha hl with h1 | h1 <;> omega
    | false =>
      by_cases e2 : d u = F
      · omega
      · have := hQ _ (B.has u hu e e2)
        simp only at this
        omega
  · obtain ⟨_, _, _, hv⟩ := E.lanes.lane hu ha
    obtain ⟨r1, r2⟩ := E.rise u hu a ha hl
    have hdu2 : d u + R ≤ M * R ∧ dn u = true := by
      cases e : dn u with
      | true =>
        have h2 := B.lowd u hu e
        have : 0 ≤ phi N L dn * R := Int.mul_nonneg (phi_nonneg N L dn) E.r0
        rw [Int.add_mul, Int.one_mul] at h2
        exact ⟨by omega, rfl⟩
      | false =>
        exfalso
        have h1 := hQ _ (B.has u hu e hdu)
        simp only at h1
        rcases B.bnd u hu with e2 | ⟨_, e3⟩
        · exact hdu e2
        · have : 0 ≤ phi N L dn * R := Int.mul_nonneg (phi_nonneg N L dn) E.r0
          omega
    rcases H.lanes u hu hdu2.2 a ha hl with h1 | h1 <;> omega
  · have h0 := B.ne0
    by_cases e : ne = 0
    · exfalso
      rcases B.near with e2 | ⟨v, hv, hp, e2⟩
      · omega
      · have h1 := B.z v hv (by omega)
        rw [E.zd v hv hp] at h1
        cases h1
    · omega
end Go.Proofs.Ytbenmebmfihleaa
end
section
/- What is sent on from a node by flat lanes, each a step nearer. (Plain mathematics.) -/
namespace Go.Proofs.Ytbenmebmfihleaa

variable {l : List Pi} {N s t u v c co at_ q : Nat} {fl fl1 fl2 h st st1 st2 sp : Nat → Int} {nx nx1 nx2 : Nat → Nat} {x : Pi} {L : Nat → List La} {a : La} {k m want much more gone : Int}
theorem netTo_pushK (hl : LanesK l N L) (hu : u < N) (ha : a ∈ L u) (m : Int) (i : Nat) :
    netTo l (push fl a m) (i : Int) l.length = netTo l fl (i : Int) l.length + (if i = a.2.1 then m else 0) - (if i = u then m else 0) := by
  obtain ⟨x, hx, hv, hd⟩ := hl.sound u hu a ha
  have hk := (List.getElem?_eq_some_iff.1 hx).1
  have e : push fl a m = fun j => if j = a.1 then fl a.1 + (if a.2.2 = true then -m else m) else fl j := by
    funext j
    unfold push
    by_cases e : j = a.1
    · subst e; simp
    · rw [if_neg e, if_neg e]
  rw [e, netTo_set (i : Int) hx _ l.length, if_pos hk]
  obtain ⟨k, v, b⟩ := a
  simp only at hd ⊢
  cases b with
  | true =>
    simp only [if_true] at hd ⊢
    have a1 : (x.2.1 = (i : Int)) ↔ i = u := by rw [hd.1]; omega
    have a2 : (x.1 = (i : Int)) ↔ i = v := by rw [hd.2]; omega
    simp only [a1, a2]
    split <;> split <;> omega
  | false =>
    simp only [Bool.false_eq_true, if_false] at hd ⊢
    have a1 : (x.2.1 = (i : Int)) ↔ i = v := by rw [hd.2]; omega
    have a2 : (x.1 = (i : Int)) ↔ i = u := by rw [hd.1]; omega
    simp only [a1, a2]
    split <;> split <;> omega
theorem cheap_push (hc : Cheap l co fl h) (hf : rise l co h a = 0) : Cheap l co (push fl a m) h := fun k x hx => by
  by_cases e : k = a.1
  · subst e
    rw [rise_of hx] at hf
    have : stp co h x = 0 := by unfold riseP at hf; split at hf <;> omega
    rw [this]
    exact ⟨fun _ => Int.le_refl _, fun _ => Int.le_refl _⟩
  · have := hc k x hx
    unfold push
    rw [if_neg e]
    exact this
/-- What a call of pour leaves. -/
structure Poured (l : List Pi) (N : Nat) (L : Nat → List La) (co : Nat) (h sp : Nat → Int) (at_ : Nat) (much : Int) (fl st : Nat → Int) (nx : Nat → Nat) (fl2 st2 : Nat → Int) (nx2 : Nat → Nat) (gone : Int) : Prop where
  g0 : 0 ≤ gone
  g1 : gone ≤ much
  cap : Capd l fl2
  cheap : Cheap l co fl2 h
  bal : ∀ i, i < N → st2 i - netTo l fl2 (i : Int) l.length = st i - netTo l fl (i : Int) l.length + (if i = at_ then gone else 0)
  off : ∀ i, i < N → sp i ≠ 0 → st2 i = st i
  on_ : ∀ i, i < N → sp i = 0 → st i ≤ st2 i ∧ st2 i ≤ 0
  flow : ∀ (j : Nat) (x : Pi), l[j]? = some x → fl2 j ≠ fl j → sp x.1.toNat ≤ sp at_ ∧ sp x.2.1.toNat ≤ sp at_
  next : ∀ i, i < N → sp at_ < sp i → nx2 i = nx i
  nxb : ∀ i, i < N → nx2 i ≤ (L i).length
  idle : sp at_ = -1 → fl2 = fl ∧ st2 = st
/-- Nothing has been sent yet. -/
structure Fresh (l : List Pi) (N : Nat) (L : Nat → List La) (co : Nat) (h sp : Nat → Int) (k : Int) (fl st : Nat → Int) (nx : Nat → Nat) : Prop where
  k0 : 0 ≤ k
  nx0 : ∀ i, i < N → 0 < sp i → sp i ≤ k → nx i = 0
  zero : ∀ i, i < N → sp i = 0 → st i < 0
  down : ∀ i, i < N → 0 < sp i → sp i ≤ k → ∃ a ∈ L i, opn l co h fl a = true ∧ sp a.2.1 = sp i - 1
/-- Before a call. -/
structure Pre (l : List Pi) (N : Nat) (L : Nat → List La) (co : Nat) (h sp fl st : Nat → Int) (nx : Nat → Nat) : Prop where
  cap : Capd l fl
  cheap : Cheap l co fl h
  on_ : ∀ i, i < N → sp i = 0 → st i ≤ 0
  nxb : ∀ i, i < N → nx i ≤ (L i).length
  small : ∀ i, i < N → -36028797018963968 ≤ st i ∧ st i ≤ 36028797018963968
  sps : ∀ i, i < N → -1 ≤ sp i ∧ sp i < (N : Int)
theorem Pre.poured (hp : Pre l N L co h sp fl st nx) (hd : Poured l N L co h sp at_ much fl st nx fl2 st2 nx2 gone) : Pre l N L co h sp fl2 st2 nx2 :=
  ⟨hd.cap, hd.cheap, fun i hi h0 => (hd.on_ i hi h0).2, hd.nxb, fun i hi => by
    have h1 := hp.small i hi
    by_cases h0 : sp i = 0
    · have := hd.on_ i hi h0; omega
    · have := hd.off i hi h0; omega, hp.sps⟩
/-- A node where something must come takes what there is. -/
theorem Pre.here (hp : Pre l N L co h sp fl st nx) (hat : at_ < N) (h0 : sp at_ = 0) (hm : 1 ≤ much) :
    Poured l N L co h sp at_ much fl st nx fl (fun i => if i = at_ then st at_ + min much (- st at_) else st i) nx (min much (- st at_)) ∧ (Fresh l N L co h sp (sp at_) fl st nx → 1 ≤ min much (- st at_)) := by
  have h1 := hp.on_ at_ hat h0
  refine ⟨⟨by omega, by omega, hp.cap, hp.cheap, fun i hi => ?_, fun i hi hne => ?_, fun i hi h2 => ?_, fun j x hx hne => absurd rfl hne, fun _ _ _ => rfl, hp.nxb, fun h => by omega⟩, fun hf => ?_⟩
  · by_cases e : i = at_
    · subst e; rw [if_pos rfl, if_pos rfl]; omega
    · rw [if_neg e, if_neg e]; omega
  · rw [if_neg (fun e => hne (by rw [e]; exact h0))]
  · have := hp.on_ i hi h2
    by_cases e : i = at_
    · subst e; rw [if_pos rfl]; omega
    · rw [if_neg e]; omega
  · have := hf.zero at_ hat h0; omega
/-- The loop's state: lanes up to q are done, so much is gone. -/
structure Pg (l : List Pi) (N : Nat) (L : Nat → List La) (co : Nat) (h sp : Nat → Int) (at_ : Nat) (much : Int) (fl st : Nat → Int) (nx : Nat → Nat) (fl1 st1 : Nat → Int) (nx1 : Nat → Nat) (gone : Int) (q : Nat) : Prop where
  out : Poured l N L co h sp at_ much fl st nx fl1 st1 nx1 gone
  at_q : nx1 at_ = q
  prog : Fresh l N L co h sp (sp at_) fl st nx → 1 ≤ gone ∨ (fl1 = fl ∧ st1 = st ∧ (∀ i, i ≠ at_ → nx1 i = nx i) ∧ ∀ (j : Nat) (a : La), j < q → (L at_)[j]? = some a → ¬ (opn l co h fl a = true ∧ sp a.2.1 = sp at_ - 1))
theorem Pg.begin_ (hp : Pre l N L co h sp fl st nx) (hat : at_ < N) (h0 : sp at_ ≠ 0) (hm : 1 ≤ much) : Pg l N L co h sp at_ much fl st nx fl st nx 0 (nx at_) := by
  refine ⟨⟨Int.le_refl _, by omega, hp.cap, hp.cheap, fun i _ => by split <;> omega, fun _ _ _ => rfl, fun i hi h1 => ⟨Int.le_refl _, hp.on_ i hi h1⟩, fun _ _ _ hne => absurd rfl hne, fun _ _ _ => rfl, hp.nxb, fun _ => ⟨rfl, rfl⟩⟩, rfl, fun hf => .inr ⟨rfl, rfl, fun _ _ => rfl, fun j a hj => ?_⟩⟩
  have := hf.nx0 at_ hat (by have := hf.k0; omega) (Int.le_refl _)
  omega
/-- A lane is passed by. -/
theorem Pg.skip (hg : Pg l N L co h sp at_ much fl st nx fl1 st1 nx1 gone q) (ha : (L at_)[q]? = some a) (hno : ¬ (opn l co h fl1 a = true ∧ sp a.2.1 = sp at_ - 1)) : Pg l N L co h sp at_ much fl st nx fl1 st1 (lifted nx1 at_ (q + 1)) gone (q + 1) := by
  have ho := hg.out
  have hql := (List.getElem?_eq_some_iff.1 ha).1
  refine ⟨⟨ho.g0, ho.g1, ho.cap, ho.cheap, ho.bal, ho.off, ho.on_, ho.flow, fun i hi hlt => ?_, fun i hi => ?_, ho.idle⟩, by simp [lifted], fun hf => ?_⟩
  · have e : i ≠ at_ := fun e => by subst e; omega
    simp only [lifted, e, if_false]
    exact ho.next i hi hlt
  · unfold lifted
    split
    · rename_i e; subst e; omega
    · exact ho.nxb i hi
  · rcases hg.prog hf with h1 | ⟨h1, h2, h3, h4⟩
    · exact .inl h1
    · subst h1 h2
      refine .inr ⟨rfl, rfl, fun i hi => by simp only [lifted, hi, if_false]; exact h3 i hi, fun j b hj hb => ?_⟩
      by_cases e : j = q
      · subst e
        rw [ha] at hb
        cases hb
        exact hno
      · exact h4 j b (by omega) hb
/-- What was sent on by a lane's end is sent through the lane. -/
theorem Pg.take (hg : Pg l N L co h sp at_ much fl st nx fl1 st1 nx1 gone q) (hl : LanesK l N L) (hat : at_ < N) (hk : 0 < sp at_) (ha : (L at_)[q]? = some a) (ho : opn l co h fl1 a = true) (hs : sp a.2.1 = sp at_ - 1)
    (hd : Poured l N L co h sp a.2.1 (min (much - gone) (lft l fl1 a)) fl1 st1 nx1 fl2 st2 nx2 more) (hpr : Fresh l N L co h sp (sp a.2.1) fl1 st1 nx1 → 1 ≤ more) :
    Pg l N L co h sp at_ much fl st nx (push fl2 a more) st2 nx2 (gone + more) q ∧ (Fresh l N L co h sp (sp at_) fl st nx → 1 ≤ gone + more) ∧ lft l fl2 a = lft l fl1 a := by
  have ham := List.mem_of_getElem? ha
  obtain ⟨x, hx, hv, hdx⟩ := hl.sound at_ hat a ham
  obtain ⟨o1, o2⟩ := opn_true.1 ho
  have hout := hg.out
  have hends : sp x.1.toNat = sp at_ ∧ sp x.2.1.toNat = sp at_ - 1 ∨ sp x.2.1.toNat = sp at_ ∧ sp x.1.toNat = sp at_ - 1 := by
    split at hdx
    · right; rw [hdx.1, hdx.2]; exact ⟨by simp, by simpa using hs⟩
    · left; rw [hdx.1, hdx.2]; exact ⟨by simp, by simpa using hs⟩
  have hsame : fl2 a.1 = fl1 a.1 := Classical.byContradiction (fun hne => by have := hd.flow a.1 x hx hne; omega)
  have hlft : lft l fl2 a = lft l fl1 a := by unfold lft; rw [hsame]
  have g0 := hd.g0
  have g1 := hd.g1
  have gg0 := hout.g0
  have gg1 := hout.g1
  have hprog : Fresh l N L co h sp (sp at_) fl st nx → 1 ≤ gone + more := fun hf => by
    rcases hg.prog hf with h1 | ⟨h1, h2, h3, h4⟩
    · omega
    · subst h1 h2
      have := hpr ⟨by omega, fun i hi hp hle => by
        have e : i ≠ at_ := fun e => by subst e; omega
        rw [h3 i e]
        exact hf.nx0 i hi hp (by omega), hf.zero, fun i hi hp hle => hf.down i hi hp (by omega)⟩
      omega
  refine ⟨⟨⟨by omega, by omega, cap_push hd.cap g0 (by rw [hlft]; omega), cheap_push hd.cheap o1, fun i hi => ?_, fun i hi hne => ?_, fun i hi h0 => ?_, fun j y hy hne => ?_, fun i hi hlt => ?_, hd.nxb, fun e => by omega⟩, ?_, fun hf => .inl (hprog hf)⟩, hprog, hlft⟩
  · have e1 := hd.bal i hi
    have e2 := hout.bal i hi
    rw [netTo_pushK hl hat ham]
    have hne : a.2.1 ≠ at_ := fun e => by rw [e] at hs; omega
    by_cases h1 : i = a.2.1
    · have h2 : i ≠ at_ := fun e => hne (h1.symm.trans e)
      rw [if_pos h1] at e1 ⊢
      rw [if_neg h2] at e2 ⊢
      rw [if_neg h2]
      omega
    · rw [if_neg h1] at e1 ⊢
      by_cases h2 : i = at_
      · rw [if_pos h2] at e2 ⊢
        rw [if_pos h2]
        omega
      · rw [if_neg h2] at e2 ⊢
        rw [if_neg h2]
        omega
  · rw [hd.off i hi hne]; exact hout.off i hi hne
  · have e1 := hd.on_ i hi h0
    have e2 := hout.on_ i hi h0
    omega
  · by_cases e : j = a.1
    · subst e
      rw [hx] at hy
      cases hy
      omega
    · unfold push at hne
      rw [if_neg e] at hne
      by_cases e2 : fl2 j = fl1 j
      · rw [e2] at hne
        exact hout.flow j y hy hne
      · have := hd.flow j y hy e2
        omega
  · rw [hd.next i hi (by omega)]; exact hout.next i hi hlt
  · rw [hd.next at_ hat (by omega)]; exact hg.at_q
/-- The next lane. -/
theorem Pg.on_ (hg : Pg l N L co h sp at_ much fl st nx fl1 st1 nx1 gone q) (hq : q < (L at_).length) (hpr : Fresh l N L co h sp (sp at_) fl st nx → 1 ≤ gone) : Pg l N L co h sp at_ much fl st nx fl1 st1 (lifted nx1 at_ (q + 1)) gone (q + 1) := by
  have ho := hg.out
  refine ⟨⟨ho.g0, ho.g1, ho.cap, ho.cheap, ho.bal, ho.off, ho.on_, ho.flow, fun i hi hlt => ?_, fun i hi => ?_, ho.idle⟩, by simp [lifted], fun hf => .inl (hpr hf)⟩
  · have e : i ≠ at_ := fun e => by subst e; omega
    simp only [lifted, e, if_false]
    exact ho.next i hi hlt
  · unfold lifted
    split
    · rename_i e; subst e; omega
    · exact ho.nxb i hi
/-- All lanes are done: something went, if anything was fresh. -/
theorem Pg.end_ (hg : Pg l N L co h sp at_ much fl st nx fl1 st1 nx1 gone q) (hat : at_ < N) (h0 : sp at_ ≠ 0) (hq : (L at_).length ≤ q) (hf : Fresh l N L co h sp (sp at_) fl st nx) : 1 ≤ gone := by
  rcases hg.prog hf with h1 | ⟨_, _, _, h4⟩
  · exact h1
  · obtain ⟨a, ha, ho, hs⟩ := hf.down at_ hat (by have := hf.k0; omega) (Int.le_refl _)
    obtain ⟨j, hj⟩ := List.getElem?_of_mem ha
    have := (List.getElem?_eq_some_iff.1 hj).1
    exact absurd ⟨ho, hs⟩ (h4 j a (by omega) hj)
/-! ### A round: all that stays is sent on -/
def over (st : Nat → Int) (i : Nat) : Int := max (st i) 0
/-- How much stays. -/
def much_ (N : Nat) (st : Nat → Int) : Int := sumN N (over st)
theorem much_nonneg (N : Nat) (st : Nat → Int) : 0 ≤ much_ N st := sumN_nonneg (fun i _ => by unfold over; omega)
/-- A round's state: nodes up to c are done. (st0, fl0: where it began.) -/
structure Rd2 (l : List Pi) (N s t : Nat) (want : Int) (L : Nat → List La) (co : Nat) (h sp fl0 st0 fl st : Nat → Int) (nx : Nat → Nat) (c : Nat) : Prop where
  sT : ST l N s t want co fl h st
  nxb : ∀ i, i < N → nx i ≤ (L i).length
  shr : Shr N st0 st
  prog : much_ N st < much_ N st0 ∨ (fl = fl0 ∧ st = st0 ∧ (∀ i, i < N → 0 ≤ sp i → nx i = 0) ∧ ∀ i, i < c → 0 < st0 i → sp i < 0)
theorem Rd2.begin_ (hs : ST l N s t want co fl h st) : Rd2 l N s t want L co h sp fl st fl st (fun _ => 0) 0 :=
  ⟨hs, fun _ _ => Nat.zero_le _, Shr.refl _ _, .inr ⟨rfl, rfl, fun _ _ _ => rfl, fun i hi => by omega⟩⟩
theorem Rd2.pre {fl0 st0 : Nat → Int} (hr : Rd2 l N s t want L co h sp fl0 st0 fl st nx c) (hn : NetK l N s t want L) (hsp : Stp l N L co h fl0 st0 sp) : Pre l N L co h sp fl st nx :=
  ⟨hr.sT.cap, hr.sT.cheap, fun i hi h0 => by have h1 := hsp.zero i hi h0; have h2 := hr.shr i hi; omega, hr.nxb, fun i hi => hr.sT.small hn hi, hsp.small⟩
theorem Rd2.skip {fl0 st0 : Nat → Int} (hr : Rd2 l N s t want L co h sp fl0 st0 fl st nx c) (h0 : ¬ 0 < st c) : Rd2 l N s t want L co h sp fl0 st0 fl st nx (c + 1) :=
  ⟨hr.sT, hr.nxb, hr.shr, hr.prog.imp id (fun ⟨h1, h2, h3, h4⟩ => ⟨h1, h2, h3, fun i hi hp => by
    by_cases e : i = c
    · subst e; rw [h2] at h0; exact absurd hp h0
    · exact h4 i (by omega) hp⟩)⟩
theorem Rd2.take {fl0 st0 : Nat → Int} (hr : Rd2 l N s t want L co h sp fl0 st0 fl st nx c) (hsp : Stp l N L co h fl0 st0 sp) (hc : c < N) (h0 : 0 < st c)
    (hd : Poured l N L co h sp c (st c) fl st nx fl2 st2 nx2 gone) (hpr : Fresh l N L co h sp (sp c) fl st nx → 1 ≤ gone) :
    st2 c = st c ∧ Rd2 l N s t want L co h sp fl0 st0 fl2 (fun i => if i = c then st c - gone else st2 i) nx2 (c + 1) := by
  have hsc : sp c ≠ 0 := fun e => by have h1 := hsp.zero c hc e; have h2 := hr.shr c hc; omega
  have hsc2 := hd.off c hc hsc
  have g0 := hd.g0
  have g1 := hd.g1
  have hov : ∀ i, i < N → over (fun i => if i = c then st c - gone else st2 i) i ≤ over st i := fun i hi => by
    show max (if i = c then st c - gone else st2 i) 0 ≤ max (st i) 0
    by_cases e : i = c
    · subst e; rw [if_pos rfl]; omega
    · rw [if_neg e]
      by_cases h1 : sp i = 0
      · have := hd.on_ i hi h1; omega
      · rw [hd.off i hi h1]; omega
  have hov0 : much_ N st ≤ much_ N st0 := sumN_le (fun i hi => by have := hr.shr i hi; unfold over; omega)
  refine ⟨hsc2, ⟨hd.cap, hd.cheap, fun i hi => ?_⟩, hd.nxb, hr.shr.trans (fun i hi => ?_), ?_⟩
  · have e1 := hd.bal i hi
    have e2 := hr.sT.bal i hi
    by_cases e : i = c
    · subst e; rw [if_pos rfl] at e1 ⊢; omega
    · rw [if_neg e] at e1 ⊢; omega
  · by_cases e : i = c
    · subst e; rw [if_pos rfl]; omega
    · rw [if_neg e]
      by_cases h1 : sp i = 0
      · have := hd.on_ i hi h1
        have h2 := hsp.zero i hi h1
        have h3 := hr.shr i hi
        omega
      · rw [hd.off i hi h1]; omega
  · rcases hr.prog with h1 | ⟨h1, h2, h3, h4⟩
    · left
      have := sumN_le hov
      unfold much_ at *
      omega
    · subst h1 h2
      by_cases hneg : sp c < 0
      · right
        have hm1 : sp c = -1 := by have := hsp.small c hc; omega
        obtain ⟨i1, i2⟩ := hd.idle hm1
        have hg : gone = 0 := by
          have e1 := hd.bal c hc
          rw [if_pos rfl, i1, i2] at e1
          omega
        subst i1 i2
        refine ⟨rfl, ?_, fun i hi hsi => (by rw [hd.next i hi (by omega)]; exact h3 i hi hsi), fun i hi hp => ?_⟩
        · funext i
          by_cases e : i = c
          · subst e; rw [if_pos rfl]; omega
          · rw [if_neg e]
        · by_cases e : i = c
          · subst e; exact hneg
          · exact h4 i (by omega) hp
      · left
        have hg := hpr ⟨by omega, fun i hi hp _ => h3 i hi (by omega), hsp.zero, fun i hi hp _ => hsp.down i hi hp⟩
        exact sumN_lt (u := c) hov hc (by unfold over; simp only [if_true]; omega)
theorem Rd2.end_ {fl0 st0 : Nat → Int} (hr : Rd2 l N s t want L co h sp fl0 st0 fl st nx N) (hex : ∃ i, i < N ∧ 0 < st0 i ∧ 0 ≤ sp i) : much_ N st < much_ N st0 := by
  rcases hr.prog with h1 | ⟨_, _, _, h4⟩
  · exact h1
  · obtain ⟨i, hi, hp, hs⟩ := hex
    have := h4 i hi hp
    omega
end Go.Proofs.Ytbenmebmfihleaa
end
