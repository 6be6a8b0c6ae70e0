/- Where one comes by what is left: rounds over all pipes. (Plain mathematics.) -/
import Derived.Test.YtifhapmblofmkaaFlowSpec
import Derived.Test.YtifhapmblofmkaaFalses
namespace Go.Proofs.Ytifhapmblofmkaa

variable {l : List Pi} {N s k f t q j rd : Nat} {fl : Nat → Int} {c : Nat → Bool} {x : Pi}
/-- The steps, two for each pipe: forth, if there is room left; back, if something flows. -/
def stepAt (l : List Pi) (fl : Nat → Int) (j : Nat) : Option (Nat × Nat) := match l[j / 2]? with
  | some x => if j % 2 = 0 then (if fl (j / 2) < x.2.2.1 then some (x.1.toNat, x.2.1.toNat) else none) else (if 0 < fl (j / 2) then some (x.2.1.toNat, x.1.toNat) else none)
  | none => none
theorem step_forth (hx : l[k]? = some x) (h1 : x.1 = (f : Int)) (h2 : x.2.1 = (t : Int)) : stepAt l fl (2 * k) = if fl k < x.2.2.1 then some (f, t) else none := by
  have e1 : 2 * k / 2 = k := by omega
  have e2 : 2 * k % 2 = 0 := by omega
  rw [stepAt, e1, hx]
  simp [h1, h2]
theorem step_back (hx : l[k]? = some x) (h1 : x.1 = (f : Int)) (h2 : x.2.1 = (t : Int)) : stepAt l fl (2 * k + 1) = if 0 < fl k then some (t, f) else none := by
  have e1 : (2 * k + 1) / 2 = k := by omega
  have e2 : (2 * k + 1) % 2 = 1 := by omega
  rw [stepAt, e1, hx]
  simp [h1, h2, e2]
theorem Res.step (hok : ∀ x ∈ l, okP (N : Int) x = true) (h : Res l fl s f) (hj : stepAt l fl j = some (f, t)) : Res l fl s t ∧ t < N := by
  unfold stepAt at hj
  cases hx : l[j / 2]? with
  | none => rw [hx] at hj; cases hj
  | some x =>
    rw [hx] at hj
    have ho := okP_true.1 (hok x (List.mem_of_getElem? hx))
    simp only at hj
    by_cases e : j % 2 = 0
    · rw [if_pos e] at hj
      by_cases e2 : fl (j / 2) < x.2.2.1
      · rw [if_pos e2] at hj
        simp only [Option.some.injEq, Prod.mk.injEq] at hj
        exact ⟨h.fwd hx (by omega) (by omega) e2, by omega⟩
      · rw [if_neg e2] at hj; cases hj
    · rw [if_neg e] at hj
      by_cases e2 : 0 < fl (j / 2)
      · rw [if_pos e2] at hj
        simp only [Option.some.injEq, Prod.mk.injEq] at hj
        exact ⟨h.back hx (by omega) (by omega) e2, by omega⟩
      · rw [if_neg e2] at hj; cases hj
/-- The first q steps lead from a marked node to a marked one. -/
def ShutTo (l : List Pi) (fl : Nat → Int) (c : Nat → Bool) (q : Nat) : Prop := ∀ (j f t : Nat), j < q → stepAt l fl j = some (f, t) → c f = true → c t = true
/-- Behind r rounds. -/
structure RRounds (l : List Pi) (fl : Nat → Int) (N s : Nat) (c : Nat → Bool) (r : Nat) : Prop where
  start : c s = true
  sound : ∀ i, i < N → c i = true → Res l fl s i
  ends : ShutTo l fl c (2 * l.length) ∨ falses N c + r + 1 ≤ N
/-- Within round r: the first q steps are done. -/
structure RPass (l : List Pi) (fl : Nat → Int) (N s : Nat) (c : Nat → Bool) (r q : Nat) : Prop where
  start : c s = true
  sound : ∀ i, i < N → c i = true → Res l fl s i
  ends : ShutTo l fl c (2 * l.length) ∨ (falses N c + r + 1 ≤ N ∧ ShutTo l fl c q) ∨ falses N c + r + 2 ≤ N
theorem RRounds.begin_ (hs : s < N) : RRounds l fl N s (setC (fun _ => false) s) 0 where
  start := setC_same _ _
  sound := fun i _ hc => by
    have : i = s := by
      by_cases e : i = s
      · exact e
      · simp [setC, e] at hc
    subst this
    exact .here
  ends := by
    have := falses_set (c := fun _ => false) (t := s) rfl N hs
    rw [falses_none] at this
    right
    omega
theorem RRounds.pass (h : RRounds l fl N s c rd) : RPass l fl N s c rd 0 := by
  refine ⟨h.start, h.sound, ?_⟩
  rcases h.ends with h1 | h1
  · exact .inl h1
  · exact .inr (.inl ⟨h1, fun j f t hj => by omega⟩)
theorem RPass.skip (h : RPass l fl N s c rd q) (hb : ∀ f t, stepAt l fl q = some (f, t) → c f = true → c t = true) : RPass l fl N s c rd (q + 1) := by
  refine ⟨h.start, h.sound, ?_⟩
  rcases h.ends with h1 | ⟨h1, h2⟩ | h1
  · exact .inl h1
  · refine .inr (.inl ⟨h1, fun j f t hj he => ?_⟩)
    by_cases e : j = q
    · subst e; exact hb f t he
    · exact h2 j f t (by omega) he
  · exact .inr (.inr h1)
theorem RPass.mark (h : RPass l fl N s c rd q) (hok : ∀ x ∈ l, okP (N : Int) x = true) (hq : q < 2 * l.length) (hj : stepAt l fl q = some (f, k)) (hf : f < N) (hcf : c f = true) (hck : c k = false) : RPass l fl N s (setC c k) rd (q + 1) := by
  obtain ⟨hres, hk⟩ := (h.sound f hf hcf).step hok hj
  refine ⟨setC_mono h.start, fun i hi hci => ?_, ?_⟩
  · by_cases e : i = k
    · subst e; exact hres
    · simp only [setC, e, if_false] at hci
      exact h.sound i hi hci
  · have := falses_set hck N hk
    rcases h.ends with h3 | ⟨h3, _⟩ | h3
    · have := h3 q f k hq hj hcf
      rw [hck] at this
      cases this
    · exact .inr (.inr (by omega))
    · exact .inr (.inr (by omega))
theorem RPass.done (h : RPass l fl N s c rd q) (hq : 2 * l.length ≤ q) : RRounds l fl N s c (rd + 1) := by
  refine ⟨h.start, h.sound, ?_⟩
  rcases h.ends with h1 | ⟨_, h1⟩ | h1
  · exact .inl h1
  · exact .inl (fun j f t hj => h1 j f t (by omega))
  · exact .inr (by omega)
theorem RRounds.done (h : RRounds l fl N s c N) {i : Nat} (hi : i < N) : c i = true ↔ Res l fl s i := by
  have hsh : ShutTo l fl c (2 * l.length) := by
    rcases h.ends with h1 | h1
    · exact h1
    · omega
  refine ⟨h.sound i hi, fun hp => ?_⟩
  clear hi
  induction hp with
  | here => exact h.start
  | fwd hr hx h1 h2 hl ih =>
    rename_i f t k x
    have hk := (List.getElem?_eq_some_iff.1 hx).1
    exact hsh (2 * k) f t (by omega) (by rw [step_forth hx h1 h2, if_pos hl]) ih
  | back hr hx h1 h2 hl ih =>
    rename_i f t k x
    have hk := (List.getElem?_eq_some_iff.1 hx).1
    exact hsh (2 * k + 1) t f (by omega) (by rw [step_back hx h1 h2, if_pos hl]) ih
end Go.Proofs.Ytifhapmblofmkaa
