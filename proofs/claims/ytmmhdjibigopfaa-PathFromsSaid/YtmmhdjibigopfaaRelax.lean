/- Arcs taken one by one, where they make a node nearer: what is told then, and by which arcs. -/
import Derived.Test.YtmmhdjibigopfaaWalk
namespace Go.Proofs.Ytmmhdjibigopfaa

variable {l : List Ar} {N s i j k q r t f : Nat} {d e p : Int} {x : Ar} {far far2 : Nat → Option Int} {by_ by2 : Nat → Int} {ws : List Int}
/-- The arcs by which one comes to a node, back to where it begins: each the By of its To. -/
inductive WayBy (l : List Ar) (s : Nat) (by_ : Nat → Int) : Nat → List Int → Int → Prop
  | nil : WayBy l s by_ s [] 0
  | snoc {f i k : Nat} {x : Ar} {r : List Int} {d : Int} (h : WayBy l s by_ f r d) (hb : by_ i = (k : Int)) (hx : l[k]? = some x) (h1 : x.1 = (f : Int)) (h2 : x.2.1 = (i : Int)) (hi : i ≠ s) : WayBy l s by_ i (r ++ [(k : Int)]) (d + x.2.2)
theorem WayBy.walk (h : WayBy l s by_ i ws d) : Walk l s i ws.length d := by
  induction h with
  | nil => exact .nil
  | snoc _ hb hx h1 h2 _ ih => exact (ih.snoc (List.mem_of_getElem? hx) h1 h2).turn (by simp) rfl
/-- There is one way only. -/
theorem WayBy.only (h : WayBy l s by_ i ws d) : ∀ {ws2 : List Int} {d2 : Int}, WayBy l s by_ i ws2 d2 → ws2 = ws ∧ d2 = d := by
  induction h with
  | nil =>
    intro ws2 d2 h2
    cases h2 with
    | nil => exact ⟨rfl, rfl⟩
    | snoc _ _ _ _ _ hi => exact absurd rfl hi
  | snoc h hb hx h1 h2 hi ih =>
    intro ws2 d2 h3
    cases h3 with
    | nil => exact absurd rfl hi
    | snoc g hb2 hx2 g1 g2 hi2 =>
      rename_i f i k x r d f2 k2 x2 r2 d2
      have hk : k = k2 := by omega
      subst hk
      rw [hx] at hx2
      cases hx2
      have hf : f = f2 := by omega
      subst hf
      obtain ⟨e1, e2⟩ := ih g
      subst e1 e2
      exact ⟨rfl, rfl⟩

/-- What is told, and by which arcs, at any time. -/
structure Told (l : List Ar) (s : Nat) (far : Nat → Option Int) (by_ : Nat → Int) : Prop where
  att : ∀ i d, far i = some d → ∃ k, Walk l s i k d
  zero : far s = some 0
  root : by_ s = -1
  off : ∀ i, far i = none → by_ i = -1
  arc : ∀ i d, i ≠ s → far i = some d → ∃ (k : Nat) (x : Ar) (f : Nat) (p : Int), by_ i = (k : Int) ∧ l[k]? = some x ∧ x.2.1 = (i : Int) ∧ x.1 = (f : Int) ∧ far f = some p ∧ p + x.2.2 ≤ d
  chain : ∀ i d, far i = some d → ∃ ws e, WayBy l s by_ i ws e
theorem Told.begin_ (l : List Ar) (s : Nat) : Told l s (fun i => if i = s then some 0 else none) (fun _ => -1) where
  att := fun i d h => by
    by_cases e : i = s
    · subst e
      simp at h
      subst h
      exact ⟨0, .nil⟩
    · simp [e] at h
  zero := by simp
  root := rfl
  off := fun _ _ => rfl
  arc := fun i d hi h => by simp [hi] at h
  chain := fun i d h => by
    by_cases e : i = s
    · subst e; exact ⟨[], 0, .nil⟩
    · simp [e] at h
def setO (far : Nat → Option Int) (t : Nat) (d : Int) : Nat → Option Int := fun j => if j = t then some d else far j
def setB (by_ : Nat → Int) (t k : Nat) : Nat → Int := fun j => if j = t then (k : Int) else by_ j
/-- A node's way: free of t, whatever t's By becomes; or one comes from t to it, and it is so much nearer than t. -/
theorem chain_or (hT : Told l s far by_) (ht : t ≠ s) (h : WayBy l s by_ i ws e) (hfar : far i = some d) :
    (∀ by2 : Nat → Int, (∀ j, j ≠ t → by2 j = by_ j) → ∃ ws2 e2, WayBy l s by2 i ws2 e2) ∨ ∃ m W dt, Walk l t i m W ∧ far t = some dt ∧ dt + W ≤ d := by
  induction h generalizing d with
  | nil => exact .inl fun _ _ => ⟨[], 0, .nil⟩
  | snoc h hb hx h1 h2 hi ih =>
    rename_i f i k x r d0
    by_cases e : i = t
    · subst e
      exact .inr ⟨0, 0, d, .nil, hfar, by omega⟩
    · obtain ⟨k2, x2, f2, p, b2, g1, g2, g3, g4, g5⟩ := hT.arc i d hi hfar
      have hk : k = k2 := by omega
      subst hk
      rw [hx] at g1
      cases g1
      have hf : f = f2 := by omega
      subst hf
      rcases ih g4 with hl | ⟨m, W, dt, hw, h5, h6⟩
      · refine .inl fun by2 hby => ?_
        obtain ⟨ws2, e2, h7⟩ := hl by2 hby
        exact ⟨_, _, h7.snoc ((hby i e).trans hb) hx h1 h2 hi⟩
      · exact .inr ⟨_, _, dt, hw.snoc (List.mem_of_getElem? hx) h1 h2, h5, by omega⟩
/-- An arc that makes a node nearer is taken: there is no cycle below nothing, or all is as it was to be. -/
theorem Told.relax (hT : Told l s far by_) (hn : ¬ Neg l s) (hx : l[k]? = some x) (h1 : x.1 = (f : Int)) (h2 : x.2.1 = (t : Int)) (hp : far f = some p) (hlt : ∀ dt, far t = some dt → p + x.2.2 < dt) :
    Told l s (setO far t (p + x.2.2)) (setB by_ t k) := by
  have hxl := List.mem_of_getElem? hx
  obtain ⟨kf, hwf⟩ := hT.att f p hp
  have hts : t ≠ s := fun e => by
    subst e
    have := hlt 0 hT.zero
    exact hn (Neg.intro .nil (hwf.snoc hxl h1 h2) (by omega))
  have hft : f ≠ t := fun e => by
    subst e
    have := hlt p hp
    exact hn (Neg.intro hwf (Walk.one hxl h1 h2) (by omega))
  have hsame : ∀ j, j ≠ t → setB by_ t k j = by_ j := fun j hj => by simp [setB, hj]
  -- f's own way doesn't go through t
  obtain ⟨wf, ef, hcf⟩ := hT.chain f p hp
  have hcf2 : ∃ ws2 e2, WayBy l s (setB by_ t k) f ws2 e2 := by
    rcases chain_or hT hts hcf hp with hl | ⟨m, W, dt, hw, h5, h6⟩
    · exact hl _ hsame
    · have := hlt dt h5
      obtain ⟨kt, hwt⟩ := hT.att t dt h5
      exact absurd (Neg.intro hwt (hw.snoc hxl h1 h2) (by omega)) hn
  obtain ⟨wf2, ef2, hcf3⟩ := hcf2
  have hct : ∃ ws2 e2, WayBy l s (setB by_ t k) t ws2 e2 := ⟨_, _, hcf3.snoc (by simp [setB]) hx h1 h2 hts⟩
  have hall : ∀ {i ws e}, WayBy l s by_ i ws e → ∃ ws2 e2, WayBy l s (setB by_ t k) i ws2 e2 := fun h => by
    induction h with
    | nil => exact ⟨[], 0, .nil⟩
    | snoc _ hb hx' g1 g2 hi ih =>
      rename_i f' i k' x' r d' _
      by_cases e : i = t
      · subst e; exact hct
      · obtain ⟨ws2, e2, h7⟩ := ih
        exact ⟨_, _, h7.snoc ((hsame i e).trans hb) hx' g1 g2 hi⟩
  refine ⟨fun i d hd => ?_, by simp [setO, Ne.symm hts, hT.zero], by rw [hsame s (Ne.symm hts)]; exact hT.root, fun i hd => ?_, fun i d hi hd => ?_, fun i d hd => ?_⟩
  · by_cases e : i = t
    · subst e
      simp [setO] at hd
      subst hd
      exact ⟨_, hwf.snoc hxl h1 h2⟩
    · simp only [setO, e, if_false] at hd
      exact hT.att i d hd
  · by_cases e : i = t
    · subst e; simp [setO] at hd
    · simp only [setO, e, if_false] at hd
      rw [hsame i e]
      exact hT.off i hd
  · by_cases e : i = t
    · subst e
      simp [setO] at hd
      subst hd
      exact ⟨k, x, f, p, by simp [setB], hx, h2, h1, by simp [setO, hft, hp], Int.le_refl _⟩
    · simp only [setO, e, if_false] at hd
      obtain ⟨k', x', f', p', b1, b2, b3, b4, b5, b6⟩ := hT.arc i d hi hd
      by_cases e2 : f' = t
      · subst e2
        exact ⟨k', x', f', p + x.2.2, (hsame i e).trans b1, b2, b3, b4, by simp [setO], by have := hlt p' b5; omega⟩
      · exact ⟨k', x', f', p', (hsame i e).trans b1, b2, b3, b4, by simp [setO, e2, b5], b6⟩
  · by_cases e : i = t
    · subst e; exact hct
    · simp only [setO, e, if_false] at hd
      obtain ⟨ws, e, h⟩ := hT.chain i d hd
      exact hall h
/-- Where no arc makes any node nearer: it is how far the nodes are, and By is by nearest arcs. -/
theorem Told.dist (hT : Told l s far by_) (hf : Fixed l far) : Dist l s far := Dist.of_fixed hT.att ⟨0, hT.zero, Int.le_refl _⟩ hf
theorem Told.even (hT : Told l s far by_) (hf : Fixed l far) (hi : i ≠ s) (hd : far i = some d) :
    ∃ (k : Nat) (x : Ar) (f : Nat) (p : Int), by_ i = (k : Int) ∧ l[k]? = some x ∧ x.2.1 = (i : Int) ∧ x.1 = (f : Int) ∧ far f = some p ∧ p + x.2.2 = d := by
  obtain ⟨k, x, f, p, b1, b2, b3, b4, b5, b6⟩ := hT.arc i d hi hd
  obtain ⟨d', e1, h1⟩ := hf x (List.mem_of_getElem? b2) f i b4 b3 p b5
  rw [hd] at e1
  cases e1
  exact ⟨k, x, f, p, b1, b2, b3, b4, b5, by omega⟩
/-- .. and the way by them weighs just as much. -/
theorem Told.way (hT : Told l s far by_) (hf : Fixed l far) (h : WayBy l s by_ i ws e) : ∀ {d}, far i = some d → d = e := by
  induction h with
  | nil =>
    intro d hd
    rw [hT.zero] at hd
    cases hd
    rfl
  | snoc h hb hx h1 h2 hi ih =>
    intro d hd
    rename_i f i k x r d0
    obtain ⟨k2, x2, f2, p, b1, b2, b3, b4, b5, b6⟩ := hT.even hf hi hd
    have hk : k = k2 := by omega
    subst hk
    rw [hx] at b2
    cases b2
    have hff : f = f2 := by omega
    subst hff
    have := ih b5
    omega

/-! ### Rounds over all arcs in place -/
/-- As near as any way by at most r arcs. -/
def Low (l : List Ar) (s : Nat) (far : Nat → Option Int) (r : Nat) : Prop := ∀ i k d, k ≤ r → Walk l s i k d → ∃ d', far i = some d' ∧ d' ≤ d
/-- Within a round, that began with far: the first q arcs are done. -/
structure Pass2 (l : List Ar) (far far2 : Nat → Option Int) (q : Nat) : Prop where
  mono : ∀ i d, far i = some d → ∃ d', far2 i = some d' ∧ d' ≤ d
  low : ∀ x ∈ l.take q, ∀ i j : Nat, x.1 = (i : Int) → x.2.1 = (j : Int) → ∀ d, far i = some d → ∃ d', far2 j = some d' ∧ d' ≤ d + x.2.2
theorem Low.zero (h : far s = some 0) : Low l s far 0 := fun i k d hk hw => by
  cases hw with
  | nil => exact ⟨0, h, Int.le_refl _⟩
  | snoc => omega
theorem Pass2.begin_ (l : List Ar) (far : Nat → Option Int) : Pass2 l far far 0 := ⟨fun i d h => ⟨d, h, Int.le_refl _⟩, fun x hx => by simp at hx⟩
theorem Pass2.none_ (h : Pass2 l far far2 q) (hx : l[q]? = some x) (h1 : x.1 = (f : Int)) (hn : far2 f = none) : Pass2 l far far2 (q + 1) := by
  refine ⟨h.mono, fun y hy i j e1 e2 d hd => ?_⟩
  rw [List.take_add_one, hx] at hy
  simp at hy
  rcases hy with hy | hy
  · exact h.low y hy i j e1 e2 d hd
  · subst hy
    have : i = f := by omega
    subst this
    obtain ⟨d', e3, _⟩ := h.mono i d hd
    rw [hn] at e3
    cases e3
/-- An arc that makes none nearer. -/
theorem Pass2.skip {dt : Int} (h : Pass2 l far far2 q) (hx : l[q]? = some x) (h1 : x.1 = (f : Int)) (h2 : x.2.1 = (t : Int)) (hp : far2 f = some p) (ht : far2 t = some dt) (hle : ¬ p + x.2.2 < dt) : Pass2 l far far2 (q + 1) := by
  refine ⟨h.mono, fun y hy i j e1 e2 d hd => ?_⟩
  rw [List.take_add_one, hx] at hy
  simp at hy
  rcases hy with hy | hy
  · exact h.low y hy i j e1 e2 d hd
  · subst hy
    have a1 : i = f := by omega
    have a2 : j = t := by omega
    subst a1 a2
    obtain ⟨d', e3, h4⟩ := h.mono i d hd
    rw [hp] at e3
    cases e3
    exact ⟨dt, ht, by omega⟩
/-- An arc that does. -/
theorem Pass2.take (h : Pass2 l far far2 q) (hx : l[q]? = some x) (h1 : x.1 = (f : Int)) (h2 : x.2.1 = (t : Int)) (hp : far2 f = some p) (hlt : ∀ dt, far2 t = some dt → p + x.2.2 < dt) : Pass2 l far (setO far2 t (p + x.2.2)) (q + 1) := by
  have nearer : ∀ i d, far2 i = some d → ∃ d', setO far2 t (p + x.2.2) i = some d' ∧ d' ≤ d := fun i d hd => by
    by_cases e : i = t
    · subst e
      exact ⟨p + x.2.2, by simp [setO], by have := hlt d hd; omega⟩
    · exact ⟨d, by simp [setO, e, hd], Int.le_refl _⟩
  refine ⟨fun i d hd => ?_, fun y hy i j e1 e2 d hd => ?_⟩
  · obtain ⟨d1, e1, h3⟩ := h.mono i d hd
    obtain ⟨d2, e2, h4⟩ := nearer i d1 e1
    exact ⟨d2, e2, by omega⟩
  · rw [List.take_add_one, hx] at hy
    simp at hy
    rcases hy with hy | hy
    · obtain ⟨d1, e3, h3⟩ := h.low y hy i j e1 e2 d hd
      obtain ⟨d2, e4, h4⟩ := nearer j d1 e3
      exact ⟨d2, e4, by omega⟩
    · subst hy
      have a1 : i = f := by omega
      have a2 : j = t := by omega
      subst a1 a2
      obtain ⟨d', e3, h4⟩ := h.mono i d hd
      rw [hp] at e3
      cases e3
      exact ⟨p + y.2.2, by simp [setO], by omega⟩
theorem Pass2.done (h : Pass2 l far far2 q) (hl : Low l s far r) (hq : l.length ≤ q) : Low l s far2 (r + 1) := fun i k d hk hw => by
  cases hw with
  | nil =>
    obtain ⟨d1, e1, h1⟩ := hl s 0 0 (by omega) .nil
    obtain ⟨d2, e2, h2⟩ := h.mono s d1 e1
    exact ⟨d2, e2, by omega⟩
  | snoc hw hx h1 h2 =>
    obtain ⟨d1, e1, h3⟩ := hl _ _ _ (by omega) hw
    obtain ⟨d2, e2, h4⟩ := h.low _ (by rw [List.take_of_length_le hq]; exact hx) _ _ h1 h2 d1 e1
    exact ⟨d2, e2, by omega⟩
/-- A round in which nothing got nearer. -/
theorem Pass2.fixed (h : Pass2 l far far q) (hq : l.length ≤ q) : Fixed l far := fun x hx i j h1 h2 d hd => h.low x (by rw [List.take_of_length_le hq]; exact hx) i j h1 h2 d hd
/-- After as many rounds as there are nodes but one, where there is no cycle below nothing, no arc makes any node nearer. -/
theorem Low.fixed (h : Low l s far r) (ha : ∀ i d, far i = some d → ∃ k, Walk l s i k d) (hok : ∀ x ∈ l, okA (N : Int) x = true) (hs : s < N) (hn : ¬ Neg l s) (hr : N ≤ r + 1) : Fixed l far := by
  refine Dist.fixed (s := s) ⟨ha, fun i k d hw => ?_⟩
  obtain ⟨k', d', h1, h2, h3⟩ := Walk.short hok hs hn k hw
  obtain ⟨d'', e, h4⟩ := h i k' d' (by omega) h3
  exact ⟨d'', e, by omega⟩
/-- .. so an arc that still does tells of such a cycle. -/
theorem Low.neg (h : Low l s far r) (ha : ∀ i d, far i = some d → ∃ k, Walk l s i k d) (hok : ∀ x ∈ l, okA (N : Int) x = true) (hs : s < N) (hr : N ≤ r + 1) (hx : x ∈ l) (h1 : x.1 = (f : Int)) (h2 : x.2.1 = (t : Int)) (hp : far f = some p)
    (hlt : ∀ dt, far t = some dt → p + x.2.2 < dt) : Neg l s := by
  by_cases hn : Neg l s
  · exact hn
  · obtain ⟨d', e, h3⟩ := h.fixed ha hok hs hn hr x hx f t h1 h2 p hp
    have := hlt d' e
    omega
theorem Low.mono {far2 : Nat → Option Int} (h : Low l s far r) (hm : ∀ i d, far i = some d → ∃ d', far2 i = some d' ∧ d' ≤ d) : Low l s far2 r := fun i k d hk hw => by
  obtain ⟨d1, e1, h1⟩ := h i k d hk hw
  obtain ⟨d2, e2, h2⟩ := hm i d1 e1
  exact ⟨d2, e2, by omega⟩
end Go.Proofs.Ytmmhdjibigopfaa
