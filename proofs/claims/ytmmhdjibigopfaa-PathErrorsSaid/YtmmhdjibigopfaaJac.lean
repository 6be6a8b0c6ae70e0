/- Rounds that take each arc out of what was told when the round began; what is told then, and by which arcs. -/
import Derived.Test.YtmmhdjibigopfaaBack
import Derived.Test.YtmmhdjibigopfaaFars
namespace Go.Proofs.Ytmmhdjibigopfaa

variable {l : List Ar} {N s i j k q r t f R : Nat} {d e p p0 W : Int} {x : Ar} {snap far : Nat → Option Int} {by_ : Nat → Int} {ws : List Int} {T : Nat → Nat} {D D2 : Nat → Prop}
/-- As Told.relax, out of what was told earlier. -/
theorem Told.relax2 {kf : Nat} (hT : Told l s far by_) (hn : ¬ Neg l s) (hx : l[k]? = some x) (h1 : x.1 = (f : Int)) (h2 : x.2.1 = (t : Int)) (hwf : Walk l s f kf p) (hp : far f = some p0) (hle : p0 ≤ p) (hlt : ∀ dt, far t = some dt → p + x.2.2 < dt) :
    Told l s (setO far t (p + x.2.2)) (setB by_ t k) := by
  have hxl := List.mem_of_getElem? hx
  have hts : t ≠ s := fun e => by
    subst e
    have := hlt 0 hT.zero
    exact hn (Neg.intro .nil (hwf.snoc hxl h1 h2) (by omega))
  have hft : f ≠ t := fun e => by
    subst e
    have := hlt p0 hp
    exact hn (Neg.intro hwf (Walk.one hxl h1 h2) (by omega))
  have hsame : ∀ j, j ≠ t → setB by_ t k j = by_ j := fun j hj => by simp [setB, hj]
  obtain ⟨wf, ef, hcf⟩ := hT.chain f p0 hp
  have hcf2 : ∃ ws2 e2, WayBy l s (setB by_ t k) f ws2 e2 := by
    rcases chain_or hT hts hcf hp with hl | ⟨m, W, dt, hw, h5, h6⟩
    · exact hl _ hsame
    · have := hlt dt h5
      obtain ⟨kt, hwt⟩ := hT.att t dt h5
      exact absurd (Neg.intro hwt (hw.snoc hxl h1 h2) (by omega)) hn
  obtain ⟨wf2, ef2, hcf3⟩ := hcf2
  have hct : ∃ ws2 e2, WayBy l s (setB by_ t k) t ws2 e2 := ⟨_, _, hcf3.snoc (by simp [setB]) hx h1 h2 hts⟩
  have hall : ∀ {i ws e}, WayBy l s by_ i ws e → ∃ ws2 e2, WayBy l s (setB by_ t k) i ws2 e2 := fun h => by
    induction h with
    | nil => exact ⟨[], 0, .nil⟩
    | snoc _ hb hx' g1 g2 hi ih =>
      rename_i f' i k' x' r d' _
      by_cases e : i = t
      · subst e; exact hct
      · obtain ⟨ws2, e2, h7⟩ := ih
        exact ⟨_, _, h7.snoc ((hsame i e).trans hb) hx' g1 g2 hi⟩
  refine ⟨fun i d hd => ?_, by simp [setO, Ne.symm hts, hT.zero], by rw [hsame s (Ne.symm hts)]; exact hT.root, fun i hd => ?_, fun i d hi hd => ?_, fun i d hd => ?_⟩
  · by_cases e : i = t
    · subst e
      simp [setO] at hd
      subst hd
      exact ⟨_, hwf.snoc hxl h1 h2⟩
    · simp only [setO, e, if_false] at hd
      exact hT.att i d hd
  · by_cases e : i = t
    · subst e; simp [setO] at hd
    · simp only [setO, e, if_false] at hd
      rw [hsame i e]
      exact hT.off i hd
  · by_cases e : i = t
    · subst e
      simp [setO] at hd
      subst hd
      exact ⟨k, x, f, p0, by simp [setB], hx, h2, h1, by simp [setO, hft, hp], by omega⟩
    · simp only [setO, e, if_false] at hd
      obtain ⟨k', x', f', p', b1, b2, b3, b4, b5, b6⟩ := hT.arc i d hi hd
      by_cases e2 : f' = t
      · subst e2
        exact ⟨k', x', f', p + x.2.2, (hsame i e).trans b1, b2, b3, b4, by simp [setO], by have := hlt p' b5; omega⟩
      · exact ⟨k', x', f', p', (hsame i e).trans b1, b2, b3, b4, by simp [setO, e2, b5], b6⟩
  · by_cases e : i = t
    · subst e; exact hct
    · simp only [setO, e, if_false] at hd
      obtain ⟨ws, e, h⟩ := hT.chain i d hd
      exact hall h

/-- What is told at any time: R rounds are done, the next one began with snap; T: the round in which a node got nearer at last; D: the arcs that are done in this round. -/
structure Jac (l : List Ar) (s : Nat) (snap far : Nat → Option Int) (by_ : Nat → Int) (T : Nat → Nat) (R : Nat) (D : Nat → Prop) : Prop where
  satt : ∀ i d, snap i = some d → ∃ k, k ≤ R ∧ Walk l s i k d
  att : ∀ i d, far i = some d → ∃ k, k ≤ R + 1 ∧ Walk l s i k d
  mono : ∀ i d, snap i = some d → ∃ d', far i = some d' ∧ d' ≤ d
  start : ∃ d, far s = some d ∧ d ≤ 0
  arc : ∀ i, T i ≠ 0 → ∃ (f k : Nat) (x : Ar) (p d : Int), ByOf l by_ i f k x ∧ far i = some d ∧ far f = some p ∧ p + x.2.2 ≤ d ∧ T i ≤ T f + 1
  idle : ∀ i, T i = 0 → by_ i = -1 ∧ (i = s ∨ far i = none)
  le : ∀ i, T i ≤ R + 1
  cyc : ∀ i ws W, BW l by_ i i ws W → ws ≠ [] → W < 0
  same : ∀ i, T i ≤ R → far i = snap i
  old : ∀ (k : Nat) (x : Ar) (f t : Nat) (p : Int), l[k]? = some x → x.1 = ((f : Nat) : Int) → x.2.1 = ((t : Nat) : Int) → snap f = some p → T f < R → ∃ dt, far t = some dt ∧ dt ≤ p + x.2.2
  low : ∀ (k : Nat) (x : Ar) (f t : Nat) (p : Int), D k → l[k]? = some x → x.1 = ((f : Nat) : Int) → x.2.1 = ((t : Nat) : Int) → snap f = some p → ∃ dt, far t = some dt ∧ dt ≤ p + x.2.2
  told : ¬ Neg l s → Told l s far by_
theorem Jac.begin_ (l : List Ar) (s : Nat) : Jac l s (fun i => if i = s then some 0 else none) (fun i => if i = s then some 0 else none) (fun _ => -1) (fun _ => 0) 0 (fun _ => False) where
  satt := fun i d h => by
    by_cases e : i = s
    · subst e
      simp at h
      subst h
      exact ⟨0, Nat.le_refl _, .nil⟩
    · simp [e] at h
  att := fun i d h => by
    by_cases e : i = s
    · subst e
      simp at h
      subst h
      exact ⟨0, by omega, .nil⟩
    · simp [e] at h
  mono := fun i d h => ⟨d, h, Int.le_refl _⟩
  start := ⟨0, by simp, Int.le_refl _⟩
  arc := fun i h => absurd rfl h
  idle := fun i _ => ⟨rfl, by by_cases e : i = s <;> simp [e]⟩
  le := fun _ => by omega
  cyc := (Run.begin_ l s).cyc
  same := fun _ _ => rfl
  old := fun k x f t p _ _ _ _ h => by omega
  low := fun _ _ _ _ _ h => h.elim
  told := fun _ => Told.begin_ l s
theorem Jac.next (h : Jac l s snap far by_ T R D) (hD : ∀ k, k < l.length → D k) : Jac l s far far by_ T (R + 1) (fun _ => False) where
  satt := h.att
  att := fun i d hd => by
    obtain ⟨k, hk, hw⟩ := h.att i d hd
    exact ⟨k, by omega, hw⟩
  mono := fun i d h => ⟨d, h, Int.le_refl _⟩
  start := h.start
  arc := h.arc
  idle := h.idle
  le := fun i => by have := h.le i; omega
  cyc := h.cyc
  same := fun _ _ => rfl
  old := fun k x f t p hx h1 h2 hp hT => h.low k x f t p (hD k (List.getElem?_eq_some_iff.1 hx).1) hx h1 h2 (by rw [← h.same f (by omega)]; exact hp)
  low := fun _ _ _ _ _ h => h.elim
  told := h.told
theorem Jac.sub (h : Jac l s snap far by_ T R D) (hD : ∀ k, D2 k → D k) : Jac l s snap far by_ T R D2 :=
  ⟨h.satt, h.att, h.mono, h.start, h.arc, h.idle, h.le, h.cyc, h.same, h.old, fun k x f t p hk => h.low k x f t p (hD k hk), h.told⟩
/-- The arcs from a node that isn't come to. -/
theorem Jac.off (h : Jac l s snap far by_ T R D) (hn : snap f = none) : Jac l s snap far by_ T R (fun k => D k ∨ ∃ x, l[k]? = some x ∧ x.1 = (f : Int)) :=
  ⟨h.satt, h.att, h.mono, h.start, h.arc, h.idle, h.le, h.cyc, h.same, h.old, (fun k x f' t p hk hx h1 h2 hp => by
    rcases hk with hk | ⟨x', hx', e⟩
    · exact h.low k x f' t p hk hx h1 h2 hp
    · rw [hx] at hx'
      cases hx'
      have : f' = f := by omega
      subst this
      rw [hn] at hp
      cases hp), h.told⟩
/-- An arc that makes none nearer. -/
theorem Jac.skip (h : Jac l s snap far by_ T R D) (hx : l[q]? = some x) (h1 : x.1 = (f : Int)) (h2 : x.2.1 = (t : Int)) (hp : snap f = some p) (hs : ∃ dt, far t = some dt ∧ dt ≤ p + x.2.2) : Jac l s snap far by_ T R (fun k => D k ∨ k = q) :=
  ⟨h.satt, h.att, h.mono, h.start, h.arc, h.idle, h.le, h.cyc, h.same, h.old, (fun k x' f' t' p' hk hx' g1 g2 hp' => by
    rcases hk with hk | hk
    · exact h.low k x' f' t' p' hk hx' g1 g2 hp'
    · subst hk
      rw [hx] at hx'
      cases hx'
      have a1 : f' = f := by omega
      have a2 : t' = t := by omega
      subst a1 a2
      rw [hp] at hp'
      cases hp'
      exact hs), h.told⟩
/-- An arc that does. -/
theorem Jac.take (h : Jac l s snap far by_ T R D) (hx : l[q]? = some x) (h1 : x.1 = (f : Int)) (h2 : x.2.1 = (t : Int)) (hp : snap f = some p) (hlt : ∀ dt, far t = some dt → p + x.2.2 < dt) :
    Jac l s snap (setO far t (p + x.2.2)) (setB by_ t q) (setT T t (R + 1)) R (fun k => D k ∨ k = q) := by
  have hxl := List.mem_of_getElem? hx
  obtain ⟨kf, hkf, hwf⟩ := h.satt f p hp
  obtain ⟨p0, hp0, hle⟩ := h.mono f p hp
  have hTf : ¬ T f < R := fun hh => by
    obtain ⟨dt, e1, e2⟩ := h.old q x f t p hx h1 h2 hp hh
    have := hlt dt e1
    omega
  have hnew : ByOf l (setB by_ t q) t f q x := ⟨by simp [setB], hx, h2, h1⟩
  have old : ∀ {j f' k' x'}, ByOf l (setB by_ t q) j f' k' x' → j ≠ t → ByOf l by_ j f' k' x' := fun hb hj => by
    have := hb.1
    simp only [setB, hj, if_false] at this
    exact ⟨this, hb.2⟩
  have far_ne : ∀ j, j ≠ t → setO far t (p + x.2.2) j = far j := fun j hj => by simp [setO, hj]
  have far_t : setO far t (p + x.2.2) t = some (p + x.2.2) := by simp [setO]
  have nearer : ∀ i d, far i = some d → ∃ d', setO far t (p + x.2.2) i = some d' ∧ d' ≤ d := fun i d hd => by
    by_cases e : i = t
    · subst e
      exact ⟨p + x.2.2, far_t, by have := hlt d hd; omega⟩
    · exact ⟨d, (far_ne i e).trans hd, Int.le_refl _⟩
  have by_of : ∀ {j f' k' x'}, ByOf l by_ j f' k' x' → ∃ p' d', far j = some d' ∧ far f' = some p' ∧ p' + x'.2.2 ≤ d' := fun {j f' k' x'} hb => by
    have hT : T j ≠ 0 := fun e => by
      have := (h.idle j e).1
      have := hb.1
      omega
    obtain ⟨f2, k2, x2, p', d', g1, g2, g3, g4, _⟩ := h.arc j hT
    obtain ⟨e1, e2, e3⟩ := hb.only g1
    subst e1 e2 e3
    exact ⟨p', d', g2, g3, g4⟩
  have step : ∀ {j f' k' x'}, ByOf l (setB by_ t q) j f' k' x' → ∃ p' d', setO far t (p + x.2.2) f' = some p' ∧ setO far t (p + x.2.2) j = some d' ∧ p' + x'.2.2 ≤ d' ∧ (f' = t → p' + x'.2.2 < d') := fun {j f' k' x'} hb => by
    by_cases e : j = t
    · subst e
      obtain ⟨e1, e2, e3⟩ := hnew.only hb
      subst e1 e2 e3
      by_cases e4 : f' = j
      · subst e4
        have := hlt p0 hp0
        exact ⟨_, _, far_t, far_t, by omega, fun _ => by omega⟩
      · exact ⟨p0, _, (far_ne f' e4).trans hp0, far_t, by omega, fun e5 => absurd e5 e4⟩
    · obtain ⟨p', d', g1, g2, g3⟩ := by_of (old hb e)
      by_cases e4 : f' = t
      · subst e4
        have := hlt p' g2
        exact ⟨_, d', far_t, (far_ne j e).trans g1, by omega, fun _ => by omega⟩
      · exact ⟨p', d', (far_ne f' e4).trans g2, (far_ne j e).trans g1, g3, fun e5 => absurd e5 e4⟩
  have sum : ∀ {i j ws W}, BW l (setB by_ t q) i j ws W → ws ≠ [] → ∃ di dj, setO far t (p + x.2.2) i = some di ∧ setO far t (p + x.2.2) j = some dj ∧ di + W ≤ dj ∧ (i = t → di + W < dj) := fun hb => by
    induction hb with
    | nil => intro hne; exact absurd rfl hne
    | snoc hw hb ih =>
      rename_i i f' j k' x' r' d' 
      intro _
      obtain ⟨p', d1, g1, g2, g3, g4⟩ := step hb
      by_cases hr : r' = []
      · subst hr
        obtain ⟨hfi, hd0⟩ := hw.empty rfl
        subst hfi hd0
        exact ⟨p', d1, g1, g2, by omega, fun e => by have := g4 e; omega⟩
      · obtain ⟨di, dj, a1, a2, a3, a4⟩ := ih hr
        rw [g1] at a2
        cases a2
        exact ⟨di, d1, a1, g2, by omega, fun e => by have := a4 e; omega⟩
  have parts : ∀ {i j ws W}, BW l (setB by_ t q) i j ws W → BW l by_ i j ws W ∨ ∃ w1 w2 W1 W2, BW l (setB by_ t q) i t w1 W1 ∧ BW l (setB by_ t q) t j w2 W2 ∧ ws = w1 ++ w2 ∧ W = W1 + W2 := fun hb => by
    induction hb with
    | nil => exact .inl .nil
    | snoc hw hb ih =>
      rename_i i f' j k' x' r' d'
      by_cases e : j = t
      · subst e
        exact .inr ⟨_, [], _, 0, hw.snoc hb, .nil, by simp, by omega⟩
      · rcases ih with ih | ⟨w1, w2, W1, W2, a1, a2, a3, a4⟩
        · exact .inl (ih.snoc (old hb e))
        · exact .inr ⟨w1, _, W1, _, a1, a2.snoc hb, by rw [a3]; simp, by omega⟩
  refine ⟨h.satt, fun i d hd => ?_, fun i d hd => ?_, ?_, fun i hi => ?_, fun i hi => ?_, fun i => ?_, fun i ws W hb hne => ?_, fun i hi => ?_, fun k' x' f' t' p' g g1 g2 gp gT => ?_, fun k' x' f' t' p' gD g g1 g2 gp => ?_, fun hn => (h.told hn).relax2 hn hx h1 h2 hwf hp0 hle hlt⟩
  · by_cases e : i = t
    · subst e
      rw [far_t] at hd
      cases hd
      exact ⟨_, by omega, hwf.snoc hxl h1 h2⟩
    · rw [far_ne i e] at hd
      exact h.att i d hd
  · obtain ⟨d1, e1, h3⟩ := h.mono i d hd
    obtain ⟨d2, e2, h4⟩ := nearer i d1 e1
    exact ⟨d2, e2, by omega⟩
  · obtain ⟨d, e1, e2⟩ := h.start
    obtain ⟨d2, e3, h4⟩ := nearer s d e1
    exact ⟨d2, e3, by omega⟩
  · by_cases e : i = t
    · subst e
      obtain ⟨p', d', g1, g2, g3, _⟩ := step hnew
      refine ⟨f, q, x, p', d', hnew, g2, g1, g3, ?_⟩
      by_cases e2 : f = i
      · subst e2; simp [setT]
      · simp only [setT, if_true, e2, if_false]; omega
    · simp only [setT, e, if_false] at hi
      obtain ⟨f', k', x', p', d', b1, b2, b3, b4, b5⟩ := h.arc i hi
      have hb : ByOf l (setB by_ t q) i f' k' x' := ⟨by simp only [setB, e, if_false]; exact b1.1, b1.2⟩
      obtain ⟨p2, d2, g1, g2, g3, _⟩ := step hb
      refine ⟨f', k', x', p2, d2, hb, g2, g1, g3, ?_⟩
      by_cases e2 : f' = t
      · subst e2
        have := h.le i
        simp only [setT, e, if_false, if_true]
        omega
      · simp only [setT, e, e2, if_false]; exact b5
  · by_cases e : i = t
    · subst e
      simp only [setT, if_true] at hi
      omega
    · simp only [setT, e, if_false] at hi
      refine ⟨by simp only [setB, e, if_false]; exact (h.idle i hi).1, ?_⟩
      rw [far_ne i e]
      exact (h.idle i hi).2
  · by_cases e : i = t
    · subst e; simp [setT]
    · simp only [setT, e, if_false]; exact h.le i
  · rcases parts hb with ho | ⟨w1, w2, W1, W2, a1, a2, a3, a4⟩
    · exact h.cyc i ws W ho hne
    · have hc := a2.append a1
      have hne2 : w2 ++ w1 ≠ [] := fun e => hne (by
        have e1 : w2 = [] := (List.append_eq_nil_iff.1 e).1
        have e2 : w1 = [] := (List.append_eq_nil_iff.1 e).2
        rw [a3, e1, e2]; rfl)
      obtain ⟨di, dj, b1, b2, _, b4⟩ := sum hc hne2
      rw [b1] at b2
      cases b2
      have := b4 rfl
      omega
  · by_cases e : i = t
    · subst e
      simp only [setT, if_true] at hi
      omega
    · simp only [setT, e, if_false] at hi
      rw [far_ne i e]
      exact h.same i hi
  · have e : f' ≠ t := fun e => by
      subst e
      simp only [setT, if_true] at gT
      omega
    simp only [setT, e, if_false] at gT
    obtain ⟨dt, c1, c2⟩ := h.old k' x' f' t' p' g g1 g2 gp gT
    obtain ⟨d2, c3, c4⟩ := nearer t' dt c1
    exact ⟨d2, c3, by omega⟩
  · rcases gD with gD | gD
    · obtain ⟨dt, c1, c2⟩ := h.low k' x' f' t' p' gD g g1 g2 gp
      obtain ⟨d2, c3, c4⟩ := nearer t' dt c1
      exact ⟨d2, c3, by omega⟩
    · subst gD
      rw [hx] at g
      cases g
      have a1 : f' = f := by omega
      have a2 : t' = t := by omega
      subst a1 a2
      rw [hp] at gp
      cases gp
      exact ⟨_, far_t, Int.le_refl _⟩
/-- A whole round, as rounds in place have it. -/
theorem Jac.run (h : Jac l s snap far by_ T R D) (hD : ∀ k, k < l.length → D k) : Run l s far by_ T (R + 1) l.length where
  att := fun i d hd => by
    obtain ⟨k, _, hw⟩ := h.att i d hd
    exact ⟨k, hw⟩
  start := h.start
  arc := h.arc
  idle := h.idle
  le := h.le
  cyc := h.cyc
  done := fun k x f t p hx h1 h2 hp hT => by
    have hk : k < l.length := (List.getElem?_eq_some_iff.1 hx).1
    rw [if_pos hk] at hT
    exact h.low k x f t p (hD k hk) hx h1 h2 (by rw [← h.same f (by omega)]; exact hp)
/-- A whole round in which nothing got nearer. -/
theorem Jac.fixed (h : Jac l s snap far by_ T R D) (hD : ∀ k, k < l.length → D k) (he : ∀ i, far i = snap i) : Fixed l far := fun x hx i j h1 h2 d hd => by
  obtain ⟨k, hk⟩ := List.getElem?_of_mem hx
  obtain ⟨dt, e, h3⟩ := h.low k x i j d (hD k (List.getElem?_eq_some_iff.1 hk).1) hk h1 h2 (by rw [← he]; exact hd)
  exact ⟨dt, e, h3⟩
theorem Jac.dist (h : Jac l s snap far by_ T R D) (hD : ∀ k, k < l.length → D k) (he : ∀ i, far i = snap i) : Dist l s far :=
  Dist.of_fixed (fun i d hd => by obtain ⟨k, _, hw⟩ := h.att i d hd; exact ⟨k, hw⟩) h.start (h.fixed hD he)
/-- As many rounds as there are nodes, and one got nearer in the last: a cycle below nothing. -/
theorem Jac.neg (h : Jac l s snap far by_ T R D) (hD : ∀ k, k < l.length → D k) (hok : ∀ x ∈ l, okA (N : Int) x = true) (hs : s < N) {v : Nat} (hv : N ≤ T v) : Neg l s := by
  obtain ⟨ws, W, h1, h2, h3, h4⟩ := (h.run hD).cycle hok hs hv
  obtain ⟨k, d, hw⟩ := h4.walk
  exact Neg.intro hw h1.walk h3
/-- Nothing that is told is beyond what a number holds. -/
theorem Jac.small (h : Jac l s snap far by_ T R D) (hok : ∀ x ∈ l, okA (N : Int) x = true) (hR : R ≤ 1000) (hd : far i = some d) : -1102000000000000 ≤ d ∧ d ≤ 1102000000000000 := by
  obtain ⟨k, hk, hw⟩ := h.att i d hd
  exact walk_small hok hw (by omega)
theorem Jac.small2 (h : Jac l s snap far by_ T R D) (hok : ∀ x ∈ l, okA (N : Int) x = true) (hR : R ≤ 1000) (hd : snap i = some d) : -1102000000000000 ≤ d ∧ d ≤ 1102000000000000 := by
  obtain ⟨k, hk, hw⟩ := h.satt i d hd
  exact walk_small hok hw (by omega)
end Go.Proofs.Ytmmhdjibigopfaa
