/- Arcs taken one by one, whatever cycles there are: going back by them. -/
import Derived.Test.YtmmhdjibigopfaaRelax
namespace Go.Proofs.Ytmmhdjibigopfaa

variable {l : List Ar} {N s i j k q r t f R : Nat} {d e p W : Int} {x : Ar} {far : Nat → Option Int} {by_ : Nat → Int} {ws : List Int} {T : Nat → Nat}
/-- k is i's By, and leads to it from f. -/
def ByOf (l : List Ar) (by_ : Nat → Int) (i f k : Nat) (x : Ar) : Prop := by_ i = (k : Int) ∧ l[k]? = some x ∧ x.2.1 = (i : Int) ∧ x.1 = (f : Int)
theorem ByOf.only {f2 k2 : Nat} {x2 : Ar} (h : ByOf l by_ i f k x) (h2 : ByOf l by_ i f2 k2 x2) : f2 = f ∧ k2 = k ∧ x2 = x := by
  obtain ⟨a1, a2, a3, a4⟩ := h
  obtain ⟨b1, b2, b3, b4⟩ := h2
  have : k = k2 := by omega
  subst this
  rw [a2] at b2
  cases b2
  exact ⟨by omega, rfl, rfl⟩
/-- From i to j by arcs each of which is the By of its To. -/
inductive BW (l : List Ar) (by_ : Nat → Int) (i : Nat) : Nat → List Int → Int → Prop
  | nil : BW l by_ i i [] 0
  | snoc {f j k : Nat} {x : Ar} {r : List Int} {d : Int} (h : BW l by_ i f r d) (hb : ByOf l by_ j f k x) : BW l by_ i j (r ++ [(k : Int)]) (d + x.2.2)
theorem BW.turn {ws2 : List Int} {d2 : Int} (h : BW l by_ i j ws d) (h1 : ws = ws2) (h2 : d = d2) : BW l by_ i j ws2 d2 := by subst h1 h2; exact h
theorem BW.append {ws2 : List Int} {d2 : Int} {m : Nat} (h : BW l by_ i j ws d) (h2 : BW l by_ j m ws2 d2) : BW l by_ i m (ws ++ ws2) (d + d2) := by
  induction h2 with
  | nil => exact h.turn (by simp) (by omega)
  | snoc _ hb ih => exact (ih.snoc hb).turn (by simp) (by omega)
theorem BW.walk (h : BW l by_ i j ws d) : Walk l i j ws.length d := by
  induction h with
  | nil => exact .nil
  | snoc _ hb ih => exact (ih.snoc (List.mem_of_getElem? hb.2.1) hb.2.2.2 hb.2.2.1).turn (by simp) rfl
theorem BW.empty (h : BW l by_ i j ws d) (hw : ws = []) : j = i ∧ d = 0 := by
  cases h with
  | nil => exact ⟨rfl, rfl⟩
  | snoc => simp at hw
theorem BW.one (hb : ByOf l by_ j f k x) : BW l by_ f j [(k : Int)] x.2.2 := (BW.nil.snoc hb).turn (by simp) (by omega)

/-- What is told at any time; T: the round in which a node got nearer at last; in round R the first q arcs are done. -/
structure Run (l : List Ar) (s : Nat) (far : Nat → Option Int) (by_ : Nat → Int) (T : Nat → Nat) (R q : Nat) : Prop where
  att : ∀ i d, far i = some d → ∃ k, Walk l s i k d
  start : ∃ d, far s = some d ∧ d ≤ 0
  arc : ∀ i, T i ≠ 0 → ∃ (f k : Nat) (x : Ar) (p d : Int), ByOf l by_ i f k x ∧ far i = some d ∧ far f = some p ∧ p + x.2.2 ≤ d ∧ T i ≤ T f + 1
  idle : ∀ i, T i = 0 → by_ i = -1 ∧ (i = s ∨ far i = none)
  le : ∀ i, T i ≤ R
  cyc : ∀ i ws W, BW l by_ i i ws W → ws ≠ [] → W < 0
  done : ∀ k x f t p, l[k]? = some x → x.1 = ((f : Nat) : Int) → x.2.1 = ((t : Nat) : Int) → far f = some p → T f < (if k < q then R else R - 1) → ∃ dt, far t = some dt ∧ dt ≤ p + x.2.2
theorem Run.by_of (h : Run l s far by_ T R q) (hb : ByOf l by_ i f k x) : T i ≠ 0 ∧ ∃ p d, far i = some d ∧ far f = some p ∧ p + x.2.2 ≤ d ∧ T i ≤ T f + 1 := by
  have hT : T i ≠ 0 := fun e => by
    have := (h.idle i e).1
    have := hb.1
    omega
  obtain ⟨f2, k2, x2, p, d, h1, h2, h3, h4, h5⟩ := h.arc i hT
  obtain ⟨e1, e2, e3⟩ := hb.only h1
  subst e1 e2 e3
  exact ⟨hT, p, d, h2, h3, h4, h5⟩
theorem Run.begin_ (l : List Ar) (s : Nat) : Run l s (fun i => if i = s then some 0 else none) (fun _ => -1) (fun _ => 0) 1 0 where
  att := (Told.begin_ l s).att
  start := ⟨0, by simp, Int.le_refl _⟩
  arc := fun i h => absurd rfl h
  idle := fun i _ => ⟨rfl, by by_cases e : i = s <;> simp [e]⟩
  le := fun _ => by omega
  cyc := fun i ws W h hne => by
    cases h with
    | nil => exact absurd rfl hne
    | snoc _ hb =>
      have e : (-1 : Int) = _ := hb.1
      omega
  done := fun k x f t p _ _ _ _ h => by simp at h
theorem Run.next (h : Run l s far by_ T R q) (hq : l.length ≤ q) : Run l s far by_ T (R + 1) 0 := by
  refine ⟨h.att, h.start, h.arc, h.idle, fun i => by have := h.le i; omega, h.cyc, fun k x f t p hx h1 h2 hp hT => ?_⟩
  refine h.done k x f t p hx h1 h2 hp ?_
  have : k < q := by have := (List.getElem?_eq_some_iff.1 hx).1; omega
  rw [if_pos this]
  simpa using hT
/-- An arc that makes none nearer. -/
theorem Run.skip (h : Run l s far by_ T R q) (hx : l[q]? = some x) (h1 : x.1 = (f : Int)) (h2 : x.2.1 = (t : Int)) (hs : ∀ p, far f = some p → ∃ dt, far t = some dt ∧ dt ≤ p + x.2.2) : Run l s far by_ T R (q + 1) := by
  refine ⟨h.att, h.start, h.arc, h.idle, h.le, h.cyc, fun k' x' f' t' p' g g1 g2 gp gT => ?_⟩
  by_cases e : k' = q
  · subst e
    rw [hx] at g
    cases g
    have a1 : f' = f := by omega
    have a2 : t' = t := by omega
    subst a1 a2
    exact hs p' gp
  · refine h.done k' x' f' t' p' g g1 g2 gp ?_
    by_cases e2 : k' < q
    · rw [if_pos e2]; rw [if_pos (by omega)] at gT; exact gT
    · rw [if_neg e2]; rw [if_neg (by omega)] at gT; exact gT
def setT (T : Nat → Nat) (t R : Nat) : Nat → Nat := fun j => if j = t then R else T j
/-- An arc that does. -/
theorem Run.take (h : Run l s far by_ T R q) (hR : 1 ≤ R) (hx : l[q]? = some x) (h1 : x.1 = (f : Int)) (h2 : x.2.1 = (t : Int)) (hp : far f = some p) (hlt : ∀ dt, far t = some dt → p + x.2.2 < dt) :
    Run l s (setO far t (p + x.2.2)) (setB by_ t q) (setT T t R) R (q + 1) := by
  have hxl := List.mem_of_getElem? hx
  have hTf : ¬ T f < R - 1 := fun hh => by
    obtain ⟨dt, e1, e2⟩ := h.done q x f t p hx h1 h2 hp (by rw [if_neg (by omega)]; exact hh)
    have := hlt dt e1
    omega
  have hnew : ByOf l (setB by_ t q) t f q x := ⟨by simp [setB], hx, h2, h1⟩
  have old : ∀ {j f' k' x'}, ByOf l (setB by_ t q) j f' k' x' → j ≠ t → ByOf l by_ j f' k' x' := fun hb hj => by
    have := hb.1
    simp only [setB, hj, if_false] at this
    exact ⟨this, hb.2⟩
  have far_ne : ∀ j, j ≠ t → setO far t (p + x.2.2) j = far j := fun j hj => by simp [setO, hj]
  have far_t : setO far t (p + x.2.2) t = some (p + x.2.2) := by simp [setO]
  -- each arc that is a By: not above; below, where it leads from t
  have step : ∀ {j f' k' x'}, ByOf l (setB by_ t q) j f' k' x' → ∃ p' d', setO far t (p + x.2.2) f' = some p' ∧ setO far t (p + x.2.2) j = some d' ∧ p' + x'.2.2 ≤ d' ∧ (f' = t → p' + x'.2.2 < d') := fun {j f' k' x'} hb => by
    by_cases e : j = t
    · subst e
      obtain ⟨e1, e2, e3⟩ := hnew.only hb
      subst e1 e2 e3
      by_cases e4 : f' = j
      · subst e4
        have := hlt p hp
        exact ⟨_, _, far_t, far_t, by omega, fun _ => by omega⟩
      · exact ⟨p, _, (far_ne f' e4).trans hp, far_t, Int.le_refl _, fun e5 => absurd e5 e4⟩
    · obtain ⟨_, p', d', g1, g2, g3, _⟩ := h.by_of (old hb e)
      by_cases e4 : f' = t
      · subst e4
        have := hlt p' g2
        exact ⟨_, d', far_t, (far_ne j e).trans g1, by omega, fun _ => by omega⟩
      · exact ⟨p', d', (far_ne f' e4).trans g2, (far_ne j e).trans g1, g3, fun e5 => absurd e5 e4⟩
  have sum : ∀ {i j ws W}, BW l (setB by_ t q) i j ws W → ws ≠ [] → ∃ di dj, setO far t (p + x.2.2) i = some di ∧ setO far t (p + x.2.2) j = some dj ∧ di + W ≤ dj ∧ (i = t → di + W < dj) := fun hb => by
    induction hb with
    | nil => intro hne; exact absurd rfl hne
    | snoc hw hb ih =>
      rename_i i f' j k' x' r' d' 
      intro _
      obtain ⟨p', d1, g1, g2, g3, g4⟩ := step hb
      by_cases hr : r' = []
      · subst hr
        obtain ⟨hfi, hd0⟩ := hw.empty rfl
        subst hfi hd0
        exact ⟨p', d1, g1, g2, by omega, fun e => by have := g4 e; omega⟩
      · obtain ⟨di, dj, a1, a2, a3, a4⟩ := ih hr
        rw [g1] at a2
        cases a2
        exact ⟨di, d1, a1, g2, by omega, fun e => by have := a4 e; omega⟩
  have parts : ∀ {i j ws W}, BW l (setB by_ t q) i j ws W → BW l by_ i j ws W ∨ ∃ w1 w2 W1 W2, BW l (setB by_ t q) i t w1 W1 ∧ BW l (setB by_ t q) t j w2 W2 ∧ ws = w1 ++ w2 ∧ W = W1 + W2 := fun hb => by
    induction hb with
    | nil => exact .inl .nil
    | snoc hw hb ih =>
      rename_i i f' j k' x' r' d'
      by_cases e : j = t
      · subst e
        exact .inr ⟨_, [], _, 0, hw.snoc hb, .nil, by simp, by omega⟩
      · rcases ih with ih | ⟨w1, w2, W1, W2, a1, a2, a3, a4⟩
        · exact .inl (ih.snoc (old hb e))
        · exact .inr ⟨w1, _, W1, _, a1, a2.snoc hb, by rw [a3]; simp, by omega⟩
  refine ⟨fun i d hd => ?_, ?_, fun i hi => ?_, fun i hi => ?_, fun i => ?_, fun i ws W hb hne => ?_, fun k' x' f' t' p' g g1 g2 gp gT => ?_⟩
  · by_cases e : i = t
    · subst e
      rw [far_t] at hd
      cases hd
      obtain ⟨kf, hw⟩ := h.att f p hp
      exact ⟨_, hw.snoc hxl h1 h2⟩
    · rw [far_ne i e] at hd
      exact h.att i d hd
  · obtain ⟨d, e1, e2⟩ := h.start
    by_cases e : s = t
    · subst e
      have := hlt d e1
      exact ⟨_, far_t, by omega⟩
    · exact ⟨d, (far_ne s e).trans e1, e2⟩
  · by_cases e : i = t
    · subst e
      obtain ⟨p', d', g1, g2, g3, _⟩ := step hnew
      refine ⟨f, q, x, p', d', hnew, g2, g1, g3, ?_⟩
      by_cases e2 : f = i
      · subst e2; simp [setT]
      · simp only [setT, if_true, e2, if_false]; omega
    · simp only [setT, e, if_false] at hi
      obtain ⟨f', k', x', p', d', b1, b2, b3, b4, b5⟩ := h.arc i hi
      have hb : ByOf l (setB by_ t q) i f' k' x' := ⟨by simp only [setB, e, if_false]; exact b1.1, b1.2⟩
      obtain ⟨p2, d2, g1, g2, g3, _⟩ := step hb
      refine ⟨f', k', x', p2, d2, hb, g2, g1, g3, ?_⟩
      by_cases e2 : f' = t
      · subst e2
        have := h.le i
        simp only [setT, e, if_false, if_true]
        omega
      · simp only [setT, e, e2, if_false]; exact b5
  · by_cases e : i = t
    · subst e
      simp only [setT, if_true] at hi
      omega
    · simp only [setT, e, if_false] at hi
      refine ⟨by simp only [setB, e, if_false]; exact (h.idle i hi).1, ?_⟩
      rw [far_ne i e]
      exact (h.idle i hi).2
  · by_cases e : i = t
    · subst e; simp [setT]
    · simp only [setT, e, if_false]; exact h.le i
  · rcases parts hb with ho | ⟨w1, w2, W1, W2, a1, a2, a3, a4⟩
    · exact h.cyc i ws W ho hne
    · have hc := a2.append a1
      have hne2 : w2 ++ w1 ≠ [] := fun e => hne (by
        have e1 : w2 = [] := (List.append_eq_nil_iff.1 e).1
        have e2 : w1 = [] := (List.append_eq_nil_iff.1 e).2
        rw [a3, e1, e2]; rfl)
      obtain ⟨di, dj, b1, b2, _, b4⟩ := sum hc hne2
      rw [b1] at b2
      cases b2
      have := b4 rfl
      omega
  · by_cases e : f' = t
    · subst e
      exact absurd gT (by simp only [setT, if_true]; split <;> omega)
    · rw [far_ne f' e] at gp
      simp only [setT, e, if_false] at gT
      by_cases e2 : k' = q
      · subst e2
        rw [hx] at g
        cases g
        have a1 : f' = f := by omega
        have a2 : t' = t := by omega
        subst a1 a2
        rw [hp] at gp
        cases gp
        exact ⟨_, far_t, Int.le_refl _⟩
      · obtain ⟨dt, c1, c2⟩ := h.done k' x' f' t' p' g g1 g2 gp (by
          by_cases e3 : k' < q
          · rw [if_pos e3]; rw [if_pos (by omega)] at gT; exact gT
          · rw [if_neg e3]; rw [if_neg (by omega)] at gT; exact gT)
        by_cases e4 : t' = t
        · subst e4
          have := hlt dt c1
          exact ⟨_, far_t, by omega⟩
        · exact ⟨dt, (far_ne t' e4).trans c1, c2⟩

/-! ### Back from a node that got nearer in round N -/
/-- m steps back, where there is no such node: itself. -/
noncomputable def back (l : List Ar) (by_ : Nat → Int) (i : Nat) : Nat := open Classical in if h : ∃ f, ∃ k x, ByOf l by_ i f k x then Classical.choose h else i
theorem back_of (hb : ByOf l by_ i f k x) : back l by_ i = f := by
  have h : ∃ f, ∃ k x, ByOf l by_ i f k x := ⟨f, k, x, hb⟩
  unfold back
  rw [dif_pos h]
  obtain ⟨k2, x2, h2⟩ := Classical.choose_spec h
  exact ((hb.only h2).1)
noncomputable def backs (l : List Ar) (by_ : Nat → Int) (i : Nat) : Nat → Nat
  | 0 => i
  | m + 1 => back l by_ (backs l by_ i m)
theorem Run.backs_T (h : Run l s far by_ T R q) {v : Nat} {n : Nat} (hv : n ≤ T v) : ∀ m, m ≤ n → n - m ≤ T (backs l by_ v m)
  | 0, _ => by simpa [backs] using hv
  | m + 1, hm => by
    have ih := h.backs_T hv m (by omega)
    obtain ⟨f, k, x, p, d, hb, _, _, _, h5⟩ := h.arc (backs l by_ v m) (by omega)
    rw [backs, back_of hb]
    omega
/-- Each of the steps is by a By. -/
theorem Run.backs_by (h : Run l s far by_ T R q) {v n : Nat} (hv : n ≤ T v) {m : Nat} (hm : m < n) : ∃ k x, ByOf l by_ (backs l by_ v m) (backs l by_ v (m + 1)) k x := by
  have := h.backs_T hv m (by omega)
  obtain ⟨f, k, x, p, d, hb, _⟩ := h.arc (backs l by_ v m) (by omega)
  refine ⟨k, x, ?_⟩
  rw [backs, back_of hb]
  exact hb
theorem Run.backs_bw (h : Run l s far by_ T R q) {v n : Nat} (hv : n ≤ T v) {a : Nat} : ∀ c, a + c ≤ n → ∃ ws W, BW l by_ (backs l by_ v (a + c)) (backs l by_ v a) ws W ∧ ws.length = c
  | 0, _ => ⟨[], 0, .nil, rfl⟩
  | c + 1, hc => by
    obtain ⟨ws, W, h1, h2⟩ := h.backs_bw hv (a := a) c (by omega)
    obtain ⟨k, x, hb⟩ := h.backs_by hv (m := a + c) (by omega)
    exact ⟨_, _, (BW.one hb).append h1, by simp [h2]⟩
theorem Run.lt (h : Run l s far by_ T R q) (hok : ∀ x ∈ l, okA (N : Int) x = true) (hs : s < N) (hT : T i ≠ 0) : i < N := by
  obtain ⟨f, k, x, p, d, hb, h1, _⟩ := h.arc i hT
  obtain ⟨k2, hw⟩ := h.att i d h1
  exact hw.lt hok hs
/-- As many steps back as there are nodes from one that got nearer in so late a round: one stands on a cycle, that is below nothing, and to which one comes. -/
theorem Run.cycle (h : Run l s far by_ T R q) (hok : ∀ x ∈ l, okA (N : Int) x = true) (hs : s < N) {v : Nat} (hv : N ≤ T v) :
    ∃ ws W, BW l by_ (backs l by_ v N) (backs l by_ v N) ws W ∧ ws ≠ [] ∧ W < 0 ∧ Comes l s (backs l by_ v N) := by
  have hin : ∀ m, m ≤ N → backs l by_ v m < N := fun m hm => by
    by_cases hmN : m < N
    · exact h.lt hok hs (by have := h.backs_T hv m hm; omega)
    · have hmn : m = N := by omega
      subst hmn
      obtain ⟨k, x, hb⟩ := h.backs_by hv (m := m - 1) (by omega)
      have e : m - 1 + 1 = m := by omega
      rw [e] at hb
      have := okA_true.1 (hok x (List.mem_of_getElem? hb.2.1))
      have := hb.2.2.2
      omega
  obtain ⟨a, b, hab, hb, he⟩ := pigeon N (backs l by_ v) hin
  -- from a on it goes round
  have hper : ∀ m, b + m ≤ N → backs l by_ v (a + m) = backs l by_ v (b + m) := fun m => by
    induction m with
    | zero => intro _; exact he
    | succ m ih =>
      intro hm
      have := ih (by omega)
      rw [← Nat.add_assoc, ← Nat.add_assoc, backs, backs, this]
  have e1 := hper (N - b) (by omega)
  have e2 : b + (N - b) = N := by omega
  rw [e2] at e1
  obtain ⟨ws, W, h1, h2⟩ := h.backs_bw hv (a := a + (N - b)) (b - a) (by omega)
  have e3 : a + (N - b) + (b - a) = N := by omega
  rw [e3, e1] at h1
  have hne : ws ≠ [] := fun e => by subst e; simp at h2; omega
  refine ⟨ws, W, h1, hne, h.cyc _ _ _ h1 hne, ?_⟩
  -- one comes to it: it has a place of its own
  cases h1 with
  | nil => exact absurd rfl hne
  | snoc hw hb2 =>
    obtain ⟨_, p, d, g1, _⟩ := h.by_of hb2
    obtain ⟨k2, hw2⟩ := h.att _ d g1
    exact hw2.comes
end Go.Proofs.Ytmmhdjibigopfaa
