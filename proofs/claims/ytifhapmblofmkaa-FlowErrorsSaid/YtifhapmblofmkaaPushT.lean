/- Heights, and what stays on its way: plain mathematics of sending all downwards. -/
import Derived.Test.YtifhapmblofmkaaFlowSpec
namespace Go.Proofs.Ytifhapmblofmkaa

/-- A lane: its pipe, where it leads, is it gone back? -/
abbrev La := Nat × Nat × Bool
def room (l : List Pi) (k : Nat) : Int := match l[k]? with | some x => x.2.2.1 | none => 0
/-- How much more may be sent through a lane. -/
def lft (l : List Pi) (fl : Nat → Int) (a : La) : Int := if a.2.2 = true then fl a.1 else room l a.1 - fl a.1
variable {l : List Pi} {N s t k u v : Nat} {fl fl2 : Nat → Int} {x : Pi} {L : Nat → List La} {hi nx hi2 nx2 : Nat → Nat} {a : La} {m : Int}
theorem room_of (hx : l[k]? = some x) : room l k = x.2.2.1 := by rw [room, hx]
structure LanesOk (l : List Pi) (N : Nat) (L : Nat → List La) : Prop where
  sound : ∀ u, u < N → ∀ a ∈ L u, ∃ x, l[a.1]? = some x ∧ u ≠ a.2.1 ∧ a.2.1 < N ∧ (if a.2.2 = true then x.2.1 = (u : Int) ∧ x.1 = (a.2.1 : Int) else x.1 = (u : Int) ∧ x.2.1 = (a.2.1 : Int))
  all : ∀ (k : Nat) (x : Pi) (f t : Nat), l[k]? = some x → x.1 = (f : Int) → x.2.1 = (t : Int) → f ≠ t → (k, t, false) ∈ L f ∧ (k, f, true) ∈ L t

/-- One number is another one. -/
def lifted (hi : Nat → Nat) (u h : Nat) : Nat → Nat := fun i => if i = u then h else hi i

/-! ### A height at which no node lies -/
theorem pigeonF : ∀ (n : Nat) (f : Nat → Nat), (∀ t, t ≤ n → f t < n) → ∃ a b, a < b ∧ b ≤ n ∧ f a = f b
  | 0, f, h => by have := h 0 (Nat.le_refl _); omega
  | n + 1, f, h => by
    by_cases hex : ∃ a, a ≤ n ∧ f a = f (n + 1)
    · obtain ⟨a, ha, he⟩ := hex
      exact ⟨a, n + 1, by omega, Nat.le_refl _, he⟩
    · obtain ⟨a, b, hab, hb, he⟩ := pigeonF n (fun t => if f t = n then f (n + 1) else f t) (fun t ht => by
        have h1 := h t (by omega)
        have h2 := h (n + 1) (Nat.le_refl _)
        have h3 : f t ≠ f (n + 1) := fun e => hex ⟨t, ht, e⟩
        split
        · omega
        · omega)
      refine ⟨a, b, hab, by omega, ?_⟩
      have ha3 : f a ≠ f (n + 1) := fun e => hex ⟨a, by omega, e⟩
      have hb3 : f b ≠ f (n + 1) := fun e => hex ⟨b, hb, e⟩
      split at he
      · split at he
        · omega
        · omega
      · split at he
        · omega
        · exact he
/-- N + 1 heights are not all taken by N nodes. -/
theorem gap_any (h : Nat → Nat) (b : Nat) : ∃ g, b ≤ g ∧ g ≤ b + N ∧ ∀ i, i < N → h i ≠ g := by
  apply Classical.byContradiction
  intro hn
  have hall : ∀ g, g ≤ N → ∃ i, i < N ∧ h i = b + g := fun g hg => by
    apply Classical.byContradiction
    intro h2
    exact hn ⟨b + g, by omega, by omega, fun i hi e => h2 ⟨i, hi, e⟩⟩
  obtain ⟨f, hf⟩ : ∃ f : Nat → Nat, ∀ g, g ≤ N → f g < N ∧ h (f g) = b + g :=
    ⟨fun g => if hg : g ≤ N then (hall g hg).choose else 0, fun g hg => by simp only [hg, dif_pos]; exact (hall g hg).choose_spec⟩
  obtain ⟨x, y, hxy, hy, he⟩ := pigeonF N f (fun t ht => (hf t ht).1)
  have h1 := (hf x (by omega)).2
  have h2 := (hf y hy).2
  rw [he] at h1
  omega
theorem gap_low (hs : s < N) (ht : t < N) (h1 : hi s = N) (h2 : hi t = 0) : ∃ g, 0 < g ∧ g < N ∧ ∀ i, i < N → hi i ≠ g := by
  obtain ⟨g, _, hg, h⟩ := gap_any (N := N) hi 0
  refine ⟨g, ?_, ?_, h⟩
  · have := h t ht; omega
  · have := h s hs; omega
theorem gap_high (hs : s < N) (hu : u < N) (h1 : hi s = N) (h2 : 2 * N ≤ hi u) : ∃ g, N < g ∧ g < 2 * N ∧ ∀ i, i < N → hi i ≠ g := by
  obtain ⟨g, hg1, hg, h⟩ := gap_any (N := N) (fun i => if i = u then 2 * N else hi i) N
  have hsu : s ≠ u := fun e => by subst e; omega
  refine ⟨g, ?_, ?_, fun i hi2 e => ?_⟩
  · have := h s hs; simp only [hsu, if_false] at this; omega
  · have := h u hu; simp only [if_true] at this; omega
  · have h3 := h i hi2
    have h4 := h u hu
    by_cases e2 : i = u
    · subst e2; simp only [if_true] at h4; omega
    · simp only [e2, if_false] at h3; omega

/-! ### Nothing is left out of what lies above such a height -/
/-- A lane in which something is left leads down by one at most. -/
def Steep (l : List Pi) (N : Nat) (L : Nat → List La) (fl : Nat → Int) (hi : Nat → Nat) : Prop := ∀ u, u < N → ∀ a ∈ L u, 0 < lft l fl a → hi u ≤ hi a.2.1 + 1
theorem Steep.shut (h : Steep l N L fl hi) (hl : LanesOk l N L) (hok : ∀ x ∈ l, okP (N : Int) x = true) {g : Nat} (hg : ∀ i, i < N → hi i ≠ g) :
    ∀ (k : Nat) (x : Pi), l[k]? = some x → (outB (fun i => decide (g < hi i)) x = true → x.2.2.1 ≤ fl k) ∧ (inB (fun i => decide (g < hi i)) x = true → fl k ≤ 0) := fun k x hx => by
  have hxo := okP_true.1 (hok x (List.mem_of_getElem? hx))
  obtain ⟨f, hf⟩ : ∃ f : Nat, x.1 = (f : Int) := ⟨x.1.toNat, by omega⟩
  obtain ⟨d, hd⟩ : ∃ d : Nat, x.2.1 = (d : Int) := ⟨x.2.1.toNat, by omega⟩
  have g1 := hg f (by omega)
  have g2 := hg d (by omega)
  refine ⟨fun a => ?_, fun b => ?_⟩
  · simp only [outB, hf, hd, Int.toNat_natCast, Bool.and_eq_true, Bool.not_eq_true', decide_eq_true_eq, decide_eq_false_iff_not] at a
    apply Classical.byContradiction
    intro hn
    have := h f (by omega) _ (hl.all k x f d hx hf hd (fun e => by subst e; omega)).1 (by simp [lft, room_of hx]; omega)
    simp only at this
    omega
  · simp only [inB, hf, hd, Int.toNat_natCast, Bool.and_eq_true, Bool.not_eq_true', decide_eq_true_eq, decide_eq_false_iff_not] at b
    apply Classical.byContradiction
    intro hn
    have := h d (by omega) _ (hl.all k x f d hx hf hd (fun e => by subst e; omega)).2 (by simp [lft]; omega)
    simp only at this
    omega
theorem sumN_nonneg {f : Nat → Int} : ∀ {n : Nat}, (∀ i, i < n → 0 ≤ f i) → 0 ≤ sumN n f
  | 0, _ => Int.le_refl _
  | n + 1, h => by have := sumN_nonneg (n := n) (fun i hi => h i (by omega)); have := h n (by omega); rw [sumN]; omega
theorem sumN_ge {u : Nat} {f : Nat → Int} : ∀ {n : Nat}, (∀ i, i < n → 0 ≤ f i) → u < n → f u ≤ sumN n f
  | n + 1, h, hu => by
    rw [sumN]
    have h1 := sumN_nonneg (n := n) (fun i hi => h i (by omega))
    have h2 := h n (by omega)
    by_cases e : u = n
    · subst e; omega
    · have := sumN_ge (u := u) (n := n) (fun i hi => h i (by omega)) (by omega); omega
/-- Where something stays, one doesn't lie too high. -/
theorem Steep.bound (h : Steep l N L fl hi) (hl : LanesOk l N L) (hok : ∀ x ∈ l, okP (N : Int) x = true) (hcap : ∀ (k : Nat) (x : Pi), l[k]? = some x → 0 ≤ fl k ∧ fl k ≤ x.2.2.1)
    (hexc : ∀ i, i < N → i ≠ s → 0 ≤ netTo l fl (i : Int) l.length) (hs : s < N) (h1 : hi s = N) (hu : u < N) (hpos : 0 < netTo l fl (u : Int) l.length) : hi u < 2 * N := by
  apply Classical.byContradiction
  intro hn
  obtain ⟨g, g1, g2, hg⟩ := gap_high (hi := hi) hs hu h1 (by omega)
  have hsh := h.shut hl hok hg
  have e := inside hok fl (fun i => decide (g < hi i)) l.length
  have hacr : 0 ≤ sumP l (across fl (fun i => decide (g < hi i))) l.length := sumP_nonneg (fun k x hx => by
    obtain ⟨_, b⟩ := hsh k x hx
    have hc := hcap k x hx
    unfold across
    by_cases b2 : inB (fun i => decide (g < hi i)) x = true
    · have := b b2
      rw [if_pos b2]
      split <;> omega
    · rw [if_neg b2]
      split <;> omega) _
  have hge := sumN_ge (u := u) (n := N) (f := fun i => if (fun i => decide (g < hi i)) i = true then netTo l fl (i : Int) l.length else 0) (fun i hi2 => by
    simp only [decide_eq_true_eq]
    split
    · rename_i h3
      exact hexc i hi2 (fun e => by subst e; omega)
    · omega) hu
  rw [e] at hge
  simp only [decide_eq_true_eq] at hge
  rw [if_pos (by omega)] at hge
  omega

/-! ### The state -/
structure PR (l : List Pi) (N : Nat) (L : Nat → List La) (s t : Nat) (fl : Nat → Int) (hi nx : Nat → Nat) : Prop where
  cap : ∀ (k : Nat) (x : Pi), l[k]? = some x → 0 ≤ fl k ∧ fl k ≤ x.2.2.1
  exc : ∀ i, i < N → i ≠ s → 0 ≤ netTo l fl (i : Int) l.length
  hs : hi s = N
  ht : hi t = 0
  bound : ∀ i, i < N → hi i < 2 * N
  nxb : ∀ i, i < N → nx i ≤ (L i).length
  val : ∀ u, u < N → ∀ (j : Nat) (a : La), (L u)[j]? = some a → 0 < lft l fl a → hi u ≤ hi a.2.1 + (if j < nx u then 0 else 1)
theorem PR.steep (h : PR l N L s t fl hi nx) : Steep l N L fl hi := fun u hu a ha hp => by
  obtain ⟨j, hj⟩ := List.getElem?_of_mem ha
  have := h.val u hu j a hj hp
  split at this <;> omega
/-- At the end: a greatest flow. -/
theorem PR.most (h : PR l N L s t fl hi nx) (hl : LanesOk l N L) (hok : ∀ x ∈ l, okP (N : Int) x = true) (hs : s < N) (ht : t < N) (hst : s ≠ t) (hz : ∀ i, i < N → i ≠ s → i ≠ t → netTo l fl (i : Int) l.length = 0) :
    IsMost l N fl s t (netTo l fl (t : Int) l.length) := by
  obtain ⟨g, g1, g2, hg⟩ := gap_low hs ht h.hs h.ht
  have hf : IsFlow l N fl s t := ⟨h.cap, hz, h.exc t ht (fun e => hst e.symm)⟩
  have h1 := h.hs
  have h2 := h.ht
  refine ⟨hf, rfl, fun i => decide (g < hi i), by simp; omega, by simp; omega, ?_⟩
  exact hf.tight hok hs ht hst (by simp; omega) (by simp; omega) (h.steep.shut hl hok hg)

/-! ### What is sent through a lane -/
def push (fl : Nat → Int) (a : La) (m : Int) : Nat → Int := fun k => if k = a.1 then fl k + (if a.2.2 = true then -m else m) else fl k
theorem sumP_one {g g2 : Nat → Pi → Int} (hx : l[k]? = some x) (he : ∀ j y, j ≠ k → g2 j y = g j y) : ∀ n, sumP l g2 n = sumP l g n + (if k < n then g2 k x - g k x else 0)
  | 0 => by simp [sumP]
  | n + 1 => by
    rw [sumP, sumP, sumP_one hx he n]
    by_cases e : n = k
    · subst e
      rw [hx, if_neg (by omega), if_pos (by omega)]
      simp only
      omega
    · have e2 : (k < n + 1) = (k < n) := by rw [eq_iff_iff]; omega
      simp only [e2]
      cases l[n]? with
      | none => simp only; omega
      | some y => simp only [he n y e]; omega
theorem lane_of (hl : LanesOk l N L) (hu : u < N) (ha : a ∈ L u) : ∃ x, l[a.1]? = some x ∧ u ≠ a.2.1 ∧ a.2.1 < N ∧ a.1 < l.length ∧ (if a.2.2 = true then x.2.1 = (u : Int) ∧ x.1 = (a.2.1 : Int) else x.1 = (u : Int) ∧ x.2.1 = (a.2.1 : Int)) := by
  obtain ⟨x, h1, h2, h3, h4⟩ := hl.sound u hu a ha
  exact ⟨x, h1, h2, h3, (List.getElem?_eq_some_iff.1 h1).1, h4⟩
theorem netTo_push (hl : LanesOk l N L) (hu : u < N) (ha : a ∈ L u) (m : Int) (i : Nat) :
    netTo l (push fl a m) (i : Int) l.length = netTo l fl (i : Int) l.length + (if i = a.2.1 then m else 0) - (if i = u then m else 0) := by
  obtain ⟨x, hx, hne, _, hk, hd⟩ := lane_of hl hu ha
  unfold netTo
  rw [sumP_one (g := brings fl (i : Int)) hx (fun j y hj => by simp [brings, push, hj]) l.length, if_pos hk]
  obtain ⟨k, v, b⟩ := a
  simp only at hx hne hk hd ⊢
  cases b with
  | true =>
    simp only [if_true] at hd
    have a1 : (x.2.1 = (i : Int)) ↔ i = u := by rw [hd.1]; omega
    have a2 : (x.1 = (i : Int)) ↔ i = v := by rw [hd.2]; omega
    simp only [brings, push, a1, a2, if_true]
    by_cases e1 : i = u
    · have e2 : ¬ i = v := by omega
      simp only [e1, if_true] at e2 ⊢; simp only [e2, if_false]; omega
    · by_cases e2 : i = v
      · simp only [e2, if_true] at e1 ⊢; simp only [e1, if_false]; omega
      · simp only [e1, e2, if_false]; omega
  | false =>
    simp only [Bool.false_eq_true, if_false] at hd
    have a1 : (x.2.1 = (i : Int)) ↔ i = v := by rw [hd.2]; omega
    have a2 : (x.1 = (i : Int)) ↔ i = u := by rw [hd.1]; omega
    simp only [brings, push, a1, a2, if_true, Bool.false_eq_true, if_false]
    by_cases e1 : i = u
    · have e2 : ¬ i = v := by omega
      simp only [e1, if_true] at e2 ⊢; simp only [e2, if_false]; omega
    · by_cases e2 : i = v
      · simp only [e2, if_true] at e1 ⊢; simp only [e1, if_false]; omega
      · simp only [e1, e2, if_false]; omega
theorem cap_push (hcap : ∀ (k : Nat) (x : Pi), l[k]? = some x → 0 ≤ fl k ∧ fl k ≤ x.2.2.1) (h0 : 0 ≤ m) (hm : m ≤ lft l fl a) :
    ∀ (k : Nat) (x : Pi), l[k]? = some x → 0 ≤ push fl a m k ∧ push fl a m k ≤ x.2.2.1 := fun k x hx => by
  have hc := hcap k x hx
  unfold push
  by_cases e : k = a.1
  · rw [if_pos e]
    subst e
    rw [lft, room_of hx] at hm
    by_cases b : a.2.2 = true
    · rw [if_pos b] at hm ⊢; omega
    · rw [if_neg b] at hm ⊢; omega
  · rw [if_neg e]; exact hc
theorem lft_push (b : La) (hb : b.1 ≠ a.1) : lft l (push fl a m) b = lft l fl b := by
  simp [lft, push, hb]
theorem lft_push_same (b : La) (hb : b.1 = a.1) (hd : b.2.2 = a.2.2) : lft l (push fl a m) b = lft l fl b - m := by
  simp only [lft, push, hb, hd]
  cases a.2.2 <;> simp <;> omega
theorem PR.push_ (h : PR l N L s t fl hi nx) (hl : LanesOk l N L) (hu : u < N) (hus : u ≠ s) {j : Nat} (hj : (L u)[j]? = some a) (hd : hi u = hi a.2.1 + 1) (h0 : 0 ≤ m) (h1 : m ≤ lft l fl a) (h2 : m ≤ netTo l fl (u : Int) l.length) :
    PR l N L s t (push fl a m) hi nx := by
  have ha := List.mem_of_getElem? hj
  refine ⟨cap_push h.cap h0 h1, fun i hi2 his => ?_, h.hs, h.ht, h.bound, h.nxb, fun v hv j2 b hb hp => ?_⟩
  · rw [netTo_push hl hu ha]
    have := h.exc i hi2 his
    by_cases e : i = u
    · subst e; rw [if_pos rfl]; split <;> omega
    · rw [if_neg e]; split <;> omega
  · by_cases hold : 0 < lft l fl b
    · exact h.val v hv j2 b hb hold
    · have e1 : b.1 = a.1 := Classical.byContradiction fun e => by rw [lft_push b e] at hp; exact hold hp
      have e2 : b.2.2 ≠ a.2.2 := fun e => by rw [lft_push_same b e1 e] at hp; omega
      obtain ⟨x, hx, _, _, _, hxd⟩ := lane_of hl hu ha
      obtain ⟨y, hy, _, _, _, hyd⟩ := lane_of hl hv (List.mem_of_getElem? hb)
      rw [e1, hx] at hy
      injection hy with hy
      subst hy
      have e3 : v = a.2.1 ∧ b.2.1 = u := by
        cases hb2 : b.2.2 <;> cases ha2 : a.2.2 <;> simp [hb2, ha2] at e2 hxd hyd <;> omega
      rw [e3.1, e3.2]
      split <;> omega

/-! ### The next lane -/
theorem PR.skip (h : PR l N L s t fl hi nx) (hu : u < N) (hj : (L u)[nx u]? = some a) (hn : ¬ (hi u = hi a.2.1 + 1 ∧ 0 < lft l fl a)) :
    PR l N L s t fl hi (lifted nx u (nx u + 1)) := by
  have hlt := (List.getElem?_eq_some_iff.1 hj).1
  refine ⟨h.cap, h.exc, h.hs, h.ht, h.bound, fun i hi2 => ?_, fun v hv j b hb hp => ?_⟩
  · unfold lifted
    split
    · rename_i e; subst e; omega
    · exact h.nxb i hi2
  · have := h.val v hv j b hb hp
    unfold lifted
    by_cases e : v = u
    · subst e
      rw [if_pos rfl]
      by_cases ej : j = nx v
      · subst ej
        rw [hj] at hb
        injection hb with hb
        subst hb
        rw [if_neg (by omega)] at this
        rw [if_pos (by omega)]
        have : ¬ hi v = hi a.2.1 + 1 := fun e => hn ⟨e, hp⟩
        omega
      · by_cases e2 : j < nx v
        · rw [if_pos e2] at this; rw [if_pos (by omega)]; exact this
        · rw [if_neg e2] at this; rw [if_neg (by omega)]; exact this
    · rw [if_neg e]; exact this

/-! ### Lifted -/
/-- What is lowest of those to which something is left. -/
structure Low (l : List Pi) (N : Nat) (fl : Nat → Int) (hi : Nat → Nat) (r : List La) (low : Nat) : Prop where
  le : low ≤ 2 * N
  all : ∀ a ∈ r, 0 < lft l fl a → low ≤ hi a.2.1
  one : low = 2 * N ∨ ∃ a ∈ r, 0 < lft l fl a ∧ low = hi a.2.1
theorem Low.begin_ (l : List Pi) (N : Nat) (fl : Nat → Int) (hi : Nat → Nat) : Low l N fl hi [] (2 * N) := ⟨Nat.le_refl _, fun _ ha => (nomatch ha), .inl rfl⟩
theorem Low.take {r : List La} {low : Nat} (h : Low l N fl hi r low) (a : La) (hp : 0 < lft l fl a) (hb : hi a.2.1 < 2 * N) : Low l N fl hi (r ++ [a]) (min low (hi a.2.1)) := by
  have := h.le
  refine ⟨by omega, fun b hb2 hp2 => ?_, ?_⟩
  · rw [List.mem_append] at hb2
    rcases hb2 with hb2 | hb2
    · have := h.all b hb2 hp2; omega
    · simp only [List.mem_singleton] at hb2; subst hb2; omega
  · rcases h.one with e | ⟨b, hb2, hp2, e⟩
    · exact .inr ⟨a, by simp, hp, by omega⟩
    · by_cases e2 : low ≤ hi a.2.1
      · exact .inr ⟨b, by simp [hb2], hp2, by omega⟩
      · exact .inr ⟨a, by simp, hp, by omega⟩
theorem Low.skip {r : List La} {low : Nat} (h : Low l N fl hi r low) (a : La) (hp : ¬ 0 < lft l fl a) : Low l N fl hi (r ++ [a]) low := by
  refine ⟨h.le, fun b hb2 hp2 => ?_, ?_⟩
  · rw [List.mem_append] at hb2
    rcases hb2 with hb2 | hb2
    · exact h.all b hb2 hp2
    · simp only [List.mem_singleton] at hb2; subst hb2; exact absurd hp2 hp
  · rcases h.one with e | ⟨b, hb2, hp2, e⟩
    · exact .inl e
    · exact .inr ⟨b, by simp [hb2], hp2, e⟩
theorem PR.lift (h : PR l N L s t fl hi nx) (hl : LanesOk l N L) (hok : ∀ x ∈ l, okP (N : Int) x = true) (hs : s < N) (hu : u < N) (hus : u ≠ s) (hut : u ≠ t) (hn : nx u = (L u).length) (hpos : 0 < netTo l fl (u : Int) l.length) {low : Nat} (hlow : Low l N fl hi (L u) low) :
    PR l N L s t fl (lifted hi u (low + 1)) (lifted nx u 0) ∧ hi u < low + 1 ∧ low + 1 < 2 * N := by
  have hup : hi u < low + 1 := by
    rcases hlow.one with e | ⟨a, ha, hp, e⟩
    · have := h.bound u hu; omega
    · obtain ⟨j, hj⟩ := List.getElem?_of_mem ha
      have := h.val u hu j a hj hp
      have hj2 := (List.getElem?_eq_some_iff.1 hj).1
      rw [if_pos (by omega)] at this
      omega
  have hval : ∀ v, v < N → ∀ (j : Nat) (a : La), (L v)[j]? = some a → 0 < lft l fl a → lifted hi u (low + 1) v ≤ lifted hi u (low + 1) a.2.1 + (if j < (lifted nx u 0) v then 0 else 1) := fun v hv j a ha hp => by
    have h1 := h.val v hv j a ha hp
    obtain ⟨x, _, hne, _⟩ := hl.sound v hv a (List.mem_of_getElem? ha)
    unfold lifted
    by_cases e : v = u
    · subst e
      have := hlow.all a (List.mem_of_getElem? ha) hp
      simp only [if_true, if_neg (fun e => hne e.symm : ¬ a.2.1 = v), Nat.not_lt_zero, if_false]
      omega
    · simp only [e, if_false]
      by_cases e2 : a.2.1 = u
      · rw [if_pos e2]; rw [e2] at h1; omega
      · rw [if_neg e2]; exact h1
  have hst : Steep l N L fl (lifted hi u (low + 1)) := fun v hv a ha hp => by
    obtain ⟨j, hj⟩ := List.getElem?_of_mem ha
    have := hval v hv j a hj hp
    split at this <;> omega
  have hb := hst.bound (s := s) (u := u) hl hok h.cap h.exc hs (by simp [lifted, (show ¬ s = u from fun e => hus e.symm), h.hs]) hu hpos
  simp only [lifted, if_true] at hb
  refine ⟨⟨h.cap, h.exc, by simp [lifted, (show ¬ s = u from fun e => hus e.symm), h.hs], by simp [lifted, (show ¬ t = u from fun e => hut e.symm), h.ht], fun i hi2 => ?_, fun i hi2 => ?_, hval⟩, hup, hb⟩
  · unfold lifted
    split
    · exact hb
    · exact h.bound i hi2
  · unfold lifted
    split
    · omega
    · exact h.nxb i hi2

/-! ### A height at which there is no node any more -/
/-- The first c nodes of those above are lifted. -/
def parted (N g c : Nat) (hi : Nat → Nat) : Nat → Nat := fun i => if i < c ∧ g < hi i ∧ hi i < N then N + 1 else hi i
def partedNx (N g c : Nat) (hi nx : Nat → Nat) : Nat → Nat := fun i => if i < c ∧ g < hi i ∧ hi i < N then 0 else nx i
theorem PR.part (h : PR l N L s t fl hi nx) (hl : LanesOk l N L) (hN : 2 ≤ N) {g : Nat} (hg : ∀ i, i < N → hi i ≠ g) : PR l N L s t fl (parted N g N hi) (partedNx N g N hi nx) := by
  refine ⟨h.cap, h.exc, by simp [parted, h.hs], by simp [parted, h.ht], fun i hi2 => ?_, fun i hi2 => ?_, fun v hv j a ha hp => ?_⟩
  · have := h.bound i hi2
    unfold parted
    split <;> omega
  · have := h.nxb i hi2
    unfold partedNx
    split <;> omega
  · have h1 := h.val v hv j a ha hp
    obtain ⟨x, _, _, hlt, _⟩ := hl.sound v hv a (List.mem_of_getElem? ha)
    have h2 := hg a.2.1 hlt
    have h3 := hg v hv
    unfold parted partedNx
    by_cases e : v < N ∧ g < hi v ∧ hi v < N
    · rw [if_pos e, if_pos e]
      split at h1
      · by_cases e2 : a.2.1 < N ∧ g < hi a.2.1 ∧ hi a.2.1 < N
        · rw [if_pos e2]; simp only [Nat.not_lt_zero, if_false]; omega
        · rw [if_neg e2]; simp only [Nat.not_lt_zero, if_false]; omega
      · by_cases e2 : a.2.1 < N ∧ g < hi a.2.1 ∧ hi a.2.1 < N
        · rw [if_pos e2]; simp only [Nat.not_lt_zero, if_false]; omega
        · rw [if_neg e2]; simp only [Nat.not_lt_zero, if_false]; omega
    · rw [if_neg e, if_neg e]
      by_cases e2 : a.2.1 < N ∧ g < hi a.2.1 ∧ hi a.2.1 < N
      · rw [if_pos e2]; omega
      · rw [if_neg e2]; exact h1
end Go.Proofs.Ytifhapmblofmkaa
