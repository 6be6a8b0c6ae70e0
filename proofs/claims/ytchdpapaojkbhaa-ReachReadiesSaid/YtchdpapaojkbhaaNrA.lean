/- Joined: NearT, NearS. -/
import Derived.Test.YtchdpapaojkbhaaPaA
import Derived.Test.YtchdpapaojkbhaaPbA
section
/- The lightest ways, the nearest first, by a pile that may hold a node several times. (Plain mathematics.) -/
namespace Go.Proofs.Ytchdpapaojkbhaa

variable {l : List Ar} {s N u t i j k q : Nat} {far : Nat → Option Int} {dn : Nat → Bool} {Q Q2 : List (Int × Int)} {d e : Int} {x : Ar} {y : Int × Int} {D D2 : Nat → Prop}
/-- How far nodes are, as was found; which ones are done; what is in the pile. -/
structure NearB (l : List Ar) (s N : Nat) (far : Nat → Option Int) (dn : Nat → Bool) (Q : List (Int × Int)) : Prop where
  real : ∀ i d, far i = some d → ∃ k, Walk l s i k d
  src : ∃ d, far s = some d ∧ d ≤ 0
  items : ∀ y ∈ Q, ∃ (i : Nat) (d : Int), y.2 = (i : Int) ∧ i < N ∧ far i = some d ∧ d ≤ y.1
  has : ∀ i, i < N → dn i = false → ∀ d, far i = some d → (d, (i : Int)) ∈ Q
  mono : ∀ i d, dn i = true → far i = some d → ∀ y ∈ Q, d ≤ y.1
  fin : ∀ i, dn i = true → ∃ d, far i = some d
/-- From each done node the arcs lead no nearer; from node u those that are looked at. -/
def Led (l : List Ar) (far : Nat → Option Int) (dn : Nat → Bool) (D : Nat → Prop) : Prop :=
  ∀ (k : Nat) (x : Ar) (i j : Nat) (d : Int), l[k]? = some x → x.1 = (i : Int) → x.2.1 = (j : Int) → dn i = true → D k → far i = some d → ∃ e, far j = some e ∧ e ≤ d + x.2.2
/-- Node u is done last. -/
def LastN (far : Nat → Option Int) (dn : Nat → Bool) (d : Int) : Prop := ∀ i e, dn i = true → far i = some e → e ≤ d
theorem NearB.perm (h : NearB l s N far dn Q) (hp : Q.Perm Q2) : NearB l s N far dn Q2 :=
  ⟨h.real, h.src, fun y hy => h.items y (hp.mem_iff.2 hy), fun i hi hd d hf => hp.mem_iff.1 (h.has i hi hd d hf), fun i d hd hf y hy => h.mono i d hd hf y (hp.mem_iff.2 hy), h.fin⟩
theorem NearB.begin_ (hs : s < N) : NearB l s N (fun i => if i = s then some 0 else none) (fun _ => false) [(0, (s : Int))] := by
  refine ⟨fun i d h => ?_, ⟨0, by simp, Int.le_refl _⟩, fun y hy => ?_, fun i _ _ d h => ?_, fun i d h => (by cases h), fun i h => (by cases h)⟩
  · by_cases e : i = s
    · subst e
      simp at h
      subst h
      exact ⟨0, .nil⟩
    · simp [e] at h
  · simp at hy
    subst hy
    exact ⟨s, 0, rfl, hs, by simp, Int.le_refl _⟩
  · by_cases e : i = s
    · subst e
      simp at h
      subst h
      simp
    · simp [e] at h
theorem Led.begin_ : Led l far (fun _ => false) D := fun k x i j d _ _ _ h => by cases h
/-- What is taken is done already. -/
theorem NearB.skip (h : NearB l s N far dn (y :: Q)) (hy : y.2 = (i : Int)) (hd : dn i = true) : NearB l s N far dn Q :=
  ⟨h.real, h.src, fun z hz => h.items z (List.mem_cons_of_mem _ hz), fun j hj hn d hf => by
    rcases List.mem_cons.1 (h.has j hj hn d hf) with e | e
    · have h2 : y.2 = (j : Int) := by rw [← e]
      have : i = j := by omega
      subst this
      rw [hd] at hn
      cases hn
    · exact e, fun j d hj hf z hz => h.mono j d hj hf z (List.mem_cons_of_mem _ hz), h.fin⟩
/-- .. or it isn't: then it is as far as the pile says, and done now. -/
theorem NearB.take_far (h : NearB l s N far dn (y :: Q)) (hl : ∀ z ∈ Q, y.1 ≤ z.1) (hy : y.2 = (i : Int)) (hd : dn i = false) : i < N ∧ far i = some y.1 := by
  obtain ⟨j, d, h1, h2, h3, h4⟩ := h.items y (List.mem_cons_self ..)
  have : i = j := by omega
  subst this
  refine ⟨h2, ?_⟩
  rcases List.mem_cons.1 (h.has i h2 hd d h3) with e | e
  · rw [← e]; exact h3
  · have := hl _ e
    simp only at this
    have : d = y.1 := by omega
    rw [← this]; exact h3
def markN (dn : Nat → Bool) (u : Nat) : Nat → Bool := fun i => if i = u then true else dn i
theorem NearB.take_ (h : NearB l s N far dn (y :: Q)) (hl : ∀ z ∈ Q, y.1 ≤ z.1) (hy : y.2 = (i : Int)) (hd : dn i = false) : NearB l s N far (markN dn i) Q ∧ LastN far (markN dn i) y.1 := by
  obtain ⟨_, hf⟩ := h.take_far hl hy hd
  refine ⟨⟨h.real, h.src, fun z hz => h.items z (List.mem_cons_of_mem _ hz), fun j hj hn d hfj => ?_, fun j d hj hfj z hz => ?_, fun j hj => ?_⟩, fun j e hj hfj => ?_⟩
  · unfold markN at hn
    by_cases e : j = i
    · simp [e] at hn
    · rw [if_neg e] at hn
      rcases List.mem_cons.1 (h.has j hj hn d hfj) with e2 | e2
      · have h2 : y.2 = (j : Int) := by rw [← e2]
        omega
      · exact e2
  · unfold markN at hj
    by_cases e : j = i
    · subst e
      rw [hf] at hfj
      injection hfj with hfj
      subst hfj
      exact hl z hz
    · rw [if_neg e] at hj
      exact h.mono j d hj hfj z (List.mem_cons_of_mem _ hz)
  · unfold markN at hj
    by_cases e : j = i
    · subst e; exact ⟨_, hf⟩
    · rw [if_neg e] at hj; exact h.fin j hj
  · unfold markN at hj
    by_cases e2 : j = i
    · subst e2
      rw [hf] at hfj
      injection hfj with hfj
      omega
    · rw [if_neg e2] at hj
      exact h.mono j e hj hfj y (List.mem_cons_self ..)
/-- Its arcs are still to be looked at. -/
theorem Led.mark (h : Led l far dn (fun _ => True)) (u : Nat) : Led l far (markN dn u) (fun k => ∀ x, l[k]? = some x → x.1 ≠ (u : Int)) := fun k x i j d hk h1 h2 hd hD hf => by
  unfold markN at hd
  by_cases e : i = u
  · subst e
    exact absurd h1 (hD x hk)
  · rw [if_neg e] at hd
    exact h k x i j d hk h1 h2 hd trivial hf
theorem Led.sub (h : Led l far dn D) (hs : ∀ k, D2 k → D k) : Led l far dn D2 := fun k x i j d hk h1 h2 hd hD hf => h k x i j d hk h1 h2 hd (hs k hD) hf
/-- An arc that leads no nearer. -/
theorem Led.no (h : Led l far dn D) (hq : l[q]? = some x) (h1 : x.1 = (u : Int)) (h2 : x.2.1 = (t : Int)) (hu : far u = some d) (he : far t = some e) (hle : e ≤ d + x.2.2) : Led l far dn (fun k => D k ∨ k = q) := fun k z i j d2 hk g1 g2 hd hD hf => by
  rcases hD with hD | hD
  · exact h k z i j d2 hk g1 g2 hd hD hf
  · subst hD
    rw [hq] at hk
    injection hk with hk
    subst hk
    have : i = u := by omega
    subst this
    have : j = t := by omega
    subst this
    rw [hu] at hf
    injection hf with hf
    subst hf
    exact ⟨e, he, hle⟩
/-- One that leads nearer. -/
def farSet (far : Nat → Option Int) (t : Nat) (d : Int) : Nat → Option Int := fun i => if i = t then some d else far i
theorem Led.yes (h : Led l far dn D) (hq : l[q]? = some x) (h1 : x.1 = (u : Int)) (h2 : x.2.1 = (t : Int)) (hu : far u = some d) (hut : u ≠ t) (htd : dn t = false) (hlt : ∀ e, far t = some e → d + x.2.2 < e) : Led l (farSet far t (d + x.2.2)) dn (fun k => D k ∨ k = q) := fun k z i j d2 hk g1 g2 hd hD hf => by
  have hit : i ≠ t := fun e => by subst e; rw [htd] at hd; cases hd
  unfold farSet at hf
  rw [if_neg hit] at hf
  unfold farSet
  rcases hD with hD | hD
  · obtain ⟨e, he, hle⟩ := h k z i j d2 hk g1 g2 hd hD hf
    by_cases ej : j = t
    · subst ej
      have := hlt e he
      exact ⟨d + x.2.2, by simp, by omega⟩
    · exact ⟨e, by rw [if_neg ej]; exact he, hle⟩
  · subst hD
    rw [hq] at hk
    injection hk with hk
    subst hk
    have : i = u := by omega
    subst this
    have : j = t := by omega
    subst this
    rw [hu] at hf
    injection hf with hf
    subst hf
    exact ⟨d + x.2.2, by simp, Int.le_refl _⟩
theorem NearB.yes (h : NearB l s N far dn Q) (hlast : LastN far dn d) (hq : l[q]? = some x) (hw : 0 ≤ x.2.2) (h1 : x.1 = (u : Int)) (h2 : x.2.1 = (t : Int)) (ht : t < N) (hu : far u = some d) (hlt : ∀ e, far t = some e → d + x.2.2 < e) :
    dn t = false ∧ NearB l s N (farSet far t (d + x.2.2)) dn ((d + x.2.2, (t : Int)) :: Q) ∧ LastN (farSet far t (d + x.2.2)) dn d := by
  have htd : dn t = false := by
    cases e : dn t with
    | false => rfl
    | true =>
      obtain ⟨e2, h3⟩ := h.fin t e
      have := hlt e2 h3
      have := hlast t e2 e h3
      omega
  have hdt : ∀ i, dn i = true → i ≠ t := fun i hi e => by subst e; rw [htd] at hi; cases hi
  refine ⟨htd, ⟨fun i e hf => ?_, ?_, fun y hy => ?_, fun i hi hn e hf => ?_, fun i e hd hf y hy => ?_, fun i hi => ?_⟩, fun i e hd hf => ?_⟩
  · unfold farSet at hf
    by_cases ei : i = t
    · subst ei
      rw [if_pos rfl] at hf
      injection hf with hf
      obtain ⟨k, hk⟩ := h.real u d hu
      exact ⟨k + 1, by rw [← hf]; exact hk.snoc (List.mem_of_getElem? hq) h1 h2⟩
    · rw [if_neg ei] at hf
      exact h.real i e hf
  · obtain ⟨e, he, hle⟩ := h.src
    unfold farSet
    by_cases es : s = t
    · rw [if_pos es]
      rw [es] at he
      have := hlt e he
      exact ⟨_, rfl, by omega⟩
    · rw [if_neg es]
      exact ⟨e, he, hle⟩
  · rcases List.mem_cons.1 hy with e | e
    · subst e
      exact ⟨t, d + x.2.2, rfl, ht, by simp [farSet], Int.le_refl _⟩
    · obtain ⟨i, e2, g1, g2, g3, g4⟩ := h.items y e
      by_cases ei : i = t
      · subst ei
        have := hlt e2 g3
        exact ⟨i, d + x.2.2, g1, g2, by simp [farSet], by omega⟩
      · exact ⟨i, e2, g1, g2, by simp [farSet, ei]; exact g3, g4⟩
  · unfold farSet at hf
    by_cases ei : i = t
    · subst ei
      rw [if_pos rfl] at hf
      injection hf with hf
      subst hf
      exact List.mem_cons_self ..
    · rw [if_neg ei] at hf
      exact List.mem_cons_of_mem _ (h.has i hi hn e hf)
  · unfold farSet at hf
    rw [if_neg (hdt i hd)] at hf
    rcases List.mem_cons.1 hy with e2 | e2
    · subst e2
      have := hlast i e hd hf
      simp only
      omega
    · exact h.mono i e hd hf y e2
  · obtain ⟨e, he⟩ := h.fin i hi
    exact ⟨e, by unfold farSet; rw [if_neg (hdt i hi)]; exact he⟩
  · unfold farSet at hf
    rw [if_neg (hdt i hd)] at hf
    exact hlast i e hd hf
/-- All is looked at. -/
theorem Led.all (h : Led l far dn D) (hD : ∀ k, k < l.length → D k) : Led l far dn (fun _ => True) := fun k x i j d hk h1 h2 hd _ hf => h k x i j d hk h1 h2 hd (hD k (List.getElem?_eq_some_iff.1 hk).1) hf
/-- The pile is empty: no way is lighter. -/
theorem NearB.least (h : NearB l s N far dn []) (hL : Led l far dn (fun _ => True)) (hok : ∀ x ∈ l, okA (N : Int) x = true) (hs : s < N) (hw : Walk l s i k d) : ∃ e, far i = some e ∧ e ≤ d := by
  induction hw with
  | nil => exact h.src
  | snoc hw hx h1 h2 ih =>
    rename_i i j k d x
    obtain ⟨e, he, hle⟩ := ih
    have hi := hw.lt hok hs
    have hd : dn i = true := by
      cases e2 : dn i with
      | true => rfl
      | false =>
        have := h.has i hi e2 e he
        simp at this
    obtain ⟨q, hq⟩ := List.getElem?_of_mem hx
    obtain ⟨e2, he2, hle2⟩ := hL q x i j e hq h1 h2 hd trivial he
    exact ⟨e2, he2, by omega⟩
end Go.Proofs.Ytchdpapaojkbhaa
end
section
/- The search over the pile, with what bounds it: how much is left to do, how far nodes can be. (Plain mathematics.) -/
namespace Go.Proofs.Ytchdpapaojkbhaa

/-! ### Sums over nodes -/
def sumD (f : Nat → Int) : Nat → Int
  | 0 => 0
  | n + 1 => sumD f n + f n
variable {f g : Nat → Int} {n u N s i j k q t : Nat} {l : List Ar} {dn : Nat → Bool} {far : Nat → Option Int} {d e p : Int} {x : Ar} {y : Int × Int} {Q Q2 : List (Int × Int)}
theorem sumD_congr : ∀ {n : Nat}, (∀ i, i < n → f i = g i) → sumD f n = sumD g n
  | 0, _ => rfl
  | n + 1, h => by rw [sumD, sumD, sumD_congr (n := n) (fun i hi => h i (by omega)), h n (by omega)]
theorem sumD_le : ∀ {n : Nat}, (∀ i, i < n → f i ≤ g i) → sumD f n ≤ sumD g n
  | 0, _ => Int.le_refl _
  | n + 1, h => by have := sumD_le (n := n) (fun i hi => h i (by omega)); have := h n (by omega); rw [sumD, sumD]; omega
theorem sumD_nonneg : ∀ {n : Nat}, (∀ i, i < n → 0 ≤ f i) → 0 ≤ sumD f n
  | 0, _ => Int.le_refl _
  | n + 1, h => by have := sumD_nonneg (n := n) (fun i hi => h i (by omega)); have := h n (by omega); rw [sumD]; omega
/-- Two that differ at one place. -/
theorem sumD_one {c : Int} : ∀ {n : Nat}, u < n → (∀ i, i < n → i ≠ u → f i = g i) → f u + c = g u → sumD f n + c = sumD g n
  | 0, h, _, _ => by omega
  | n + 1, h, h1, h2 => by
    rw [sumD, sumD]
    by_cases e : u = n
    · subst e
      rw [sumD_congr (f := f) (g := g) (fun i hi => h1 i (by omega) (by omega))]
      omega
    · have := sumD_one (n := n) (c := c) (by omega) (fun i hi hne => h1 i (by omega) hne) h2
      have := h1 n (by omega) (fun e2 => e e2.symm)
      omega
theorem sumD_const (n : Nat) : sumD (fun _ => 1) n = (n : Int) := by
  induction n with
  | zero => rfl
  | succ n ih => rw [sumD, ih]; omega
theorem sumD_zero (n : Nat) : sumD (fun _ => 0) n = 0 := by
  induction n with
  | zero => rfl
  | succ n ih => rw [sumD, ih]; omega
/-- Arcs from nodes that aren't done. -/
def leftD (N : Nat) (l : List Ar) (dn : Nat → Bool) : Int := sumD (fun i => if dn i = true then 0 else ((outK l i).length : Int)) N
/-- How many are done. -/
def doneD (N : Nat) (dn : Nat → Bool) : Int := sumD (fun i => if dn i = true then 1 else 0) N
theorem leftD_nonneg : 0 ≤ leftD N l dn := sumD_nonneg (fun i _ => by split <;> omega)
theorem leftD_mark (hu : u < N) (h : dn u = false) : leftD N l (markN dn u) + ((outK l u).length : Int) = leftD N l dn := by
  unfold leftD
  refine sumD_one hu (fun i _ hne => ?_) ?_
  · simp only [markN, hne, if_false]
  · simp [markN, h]
theorem doneD_mark (hu : u < N) (h : dn u = false) : doneD N (markN dn u) = doneD N dn + 1 := by
  have : doneD N (markN dn u) + (-1) = doneD N dn := by
    unfold doneD
    refine sumD_one hu (fun i _ hne => ?_) ?_
    · simp only [markN, hne, if_false]
    · simp [markN, h]
  omega
theorem doneD_in : 0 ≤ doneD N dn ∧ doneD N dn ≤ (N : Int) := ⟨sumD_nonneg (fun i _ => by split <;> omega), by
  rw [← sumD_const N]
  exact sumD_le (fun i _ => by split <;> omega)⟩
theorem doneD_none : doneD N (fun _ => false) = 0 := by
  unfold doneD
  rw [sumD_congr (g := fun _ => 0) (fun i _ => by simp), sumD_zero]
theorem degs_le (N : Nat) (l : List Ar) : sumD (fun i => ((outK l i).length : Int)) N ≤ (l.length : Int) := by
  have key : ∀ m, m ≤ l.length → sumD (fun i => ((outK (l.take m) i).length : Int)) N ≤ (m : Int) := fun m => by
    induction m with
    | zero =>
      intro _
      rw [sumD_congr (g := fun _ => 0) (fun i _ => by simp [outK]), sumD_zero]
      omega
    | succ m ih =>
      intro hm
      have h1 := ih (by omega)
      have hx : l[m]? = some l[m] := List.getElem?_eq_getElem (by omega)
      have h2 : sumD (fun i => ((outK (l.take (m + 1)) i).length : Int)) N ≤ sumD (fun i => ((outK (l.take m) i).length : Int)) N + 1 := by
        by_cases hn : ∃ u : Nat, u < N ∧ l[m].1 = (u : Int)
        · obtain ⟨u, hu, hux⟩ := hn
          have := sumD_one (f := fun i => ((outK (l.take m) i).length : Int)) (g := fun i => ((outK (l.take (m + 1)) i).length : Int)) (c := 1) hu (fun i _ hne => by
            simp only [outK_take hx i]
            rw [if_neg (by omega)]) (by
            simp only [outK_take hx u]
            rw [if_pos hux, List.length_append]
            simp)
          omega
        · have : sumD (fun i => ((outK (l.take (m + 1)) i).length : Int)) N = sumD (fun i => ((outK (l.take m) i).length : Int)) N := sumD_congr (fun i hi => by
            simp only [outK_take hx i]
            rw [if_neg (fun e => hn ⟨i, hi, e⟩)])
          omega
      omega
  have := key l.length (Nat.le_refl _)
  rw [List.take_length] at this
  exact this
theorem leftD_first : leftD N l (fun _ => false) ≤ (l.length : Int) := by
  unfold leftD
  rw [sumD_congr (g := fun i => ((outK l i).length : Int)) (fun i _ => by simp)]
  exact degs_le N l

/-! ### The search -/
/-- All arcs but those from node u; and of those the first j. -/
def LkN (l : List Ar) (u j k : Nat) : Prop := (∀ x, l[k]? = some x → x.1 ≠ (u : Int)) ∨ (k : Int) ∈ (outK l u).take j
theorem LkN.zero (h : LkN l u 0 k) : ∀ x, l[k]? = some x → x.1 ≠ (u : Int) := by
  rcases h with h | h
  · exact h
  · simp at h
theorem LkN.succ (hq : (outK l u)[j]? = some (q : Int)) (h : LkN l u (j + 1) k) : LkN l u j k ∨ k = q := by
  rcases h with h | h
  · exact .inl (.inl h)
  · rw [List.take_add_one, hq] at h
    simp at h
    rcases h with h | h
    · exact .inl (.inr h)
    · exact .inr (by omega)
theorem LkN.all (hj : (outK l u).length ≤ j) (k : Nat) (hk : k < l.length) : LkN l u j k := by
  by_cases h : l[k].1 = (u : Int)
  · refine .inr ?_
    rw [List.take_of_length_le hj]
    exact mem_outK.2 ⟨k, l[k], rfl, List.getElem?_eq_getElem hk, h⟩
  · refine .inl (fun x hx => ?_)
    rw [List.getElem?_eq_getElem hk] at hx
    injection hx with hx
    rw [← hx]
    exact h
/-- The greatest weight. -/
def WM : Int := 1099511627776
/-- All that is found lies so far at most. -/
def BndN (far : Nat → Option Int) (c : Int) : Prop := ∀ i d, far i = some d → 0 ≤ d ∧ d ≤ c * 1099511627776
/-- Between two rounds. -/
structure SrchH (l : List Ar) (s N : Nat) (far : Nat → Option Int) (dn : Nat → Bool) (Q : List (Int × Int)) : Prop where
  base : NearB l s N far dn Q
  led : Led l far dn (fun _ => True)
  bnd : BndN far (doneD N dn)
/-- Within one: node u, so far, is done last; the first j arcs from it are looked at. -/
structure SrchI (l : List Ar) (s N u : Nat) (d : Int) (far : Nat → Option Int) (dn : Nat → Bool) (Q : List (Int × Int)) (j : Nat) : Prop where
  base : NearB l s N far dn Q
  last : LastN far dn d
  led : Led l far dn (LkN l u j)
  at_ : far u = some d
  dnu : dn u = true
  bnd : BndN far (doneD N dn)
  low : 0 ≤ d ∧ d + 1099511627776 ≤ doneD N dn * 1099511627776
theorem SrchH.begin_ (hs : s < N) : SrchH l s N (fun i => if i = s then some 0 else none) (fun _ => false) [(0, (s : Int))] := by
  refine ⟨NearB.begin_ hs, Led.begin_, fun i d h => ?_⟩
  rw [doneD_none]
  by_cases e : i = s
  · simp [e] at h; omega
  · simp [e] at h
theorem SrchH.perm (h : SrchH l s N far dn Q) (hp : Q.Perm Q2) : SrchH l s N far dn Q2 := ⟨h.base.perm hp, h.led, h.bnd⟩
theorem SrchH.skip (h : SrchH l s N far dn (y :: Q)) (hy : y.2 = (i : Int)) (hd : dn i = true) : SrchH l s N far dn Q := ⟨h.base.skip hy hd, h.led, h.bnd⟩
theorem SrchH.take_ (h : SrchH l s N far dn (y :: Q)) (hl : ∀ z ∈ Q, y.1 ≤ z.1) (hy : y.2 = (u : Int)) (hd : dn u = false) : u < N ∧ SrchI l s N u y.1 far (markN dn u) Q 0 := by
  obtain ⟨hu, hf⟩ := h.base.take_far hl hy hd
  obtain ⟨h1, h2⟩ := h.base.take_ hl hy hd
  have hb := h.bnd u y.1 hf
  refine ⟨hu, h1, h2, (h.led.mark u).sub (fun k hk => hk.zero), hf, by simp [markN], fun i d hi => ?_, ?_⟩
  · have := h.bnd i d hi
    rw [doneD_mark hu hd]
    omega
  · rw [doneD_mark hu hd]
    omega
theorem SrchI.far_in (h : SrchI l s N u d far dn Q j) : 0 ≤ d ∧ d ≤ (N : Int) * 1099511627776 := by
  have := h.low
  have := (doneD_in (N := N) (dn := dn)).2
  omega
theorem SrchI.no (h : SrchI l s N u d far dn Q j) (hok : ∀ x ∈ l, okA (N : Int) x = true) (hN : N ≤ 1000) (hj : (outK l u)[j]? = some (k : Int)) (hx : l[k]? = some x) (h1 : x.1 = (u : Int)) (h2 : x.2.1 = (t : Int)) (hge : ¬ d + x.2.2 < valI far t) :
    SrchI l s N u d far dn Q (j + 1) := by
  have hf := h.far_in
  have hw := okA_weight hok x (List.mem_of_getElem? hx)
  cases e : far t with
  | none => rw [valI_none e] at hge; omega
  | some dt =>
    rw [valI_some e] at hge
    exact ⟨h.base, h.last, (h.led.no hx h1 h2 h.at_ e (by omega)).sub (fun q hq => hq.succ hj), h.at_, h.dnu, h.bnd, h.low⟩
theorem SrchI.yes (h : SrchI l s N u d far dn Q j) (hok : ∀ x ∈ l, okA (N : Int) x = true) (hw0 : 0 ≤ x.2.2) (hj : (outK l u)[j]? = some (k : Int)) (hx : l[k]? = some x) (h1 : x.1 = (u : Int)) (h2 : x.2.1 = (t : Int)) (ht : t < N) (hlt : d + x.2.2 < valI far t) :
    SrchI l s N u d (farSet far t (d + x.2.2)) dn ((d + x.2.2, (t : Int)) :: Q) (j + 1) := by
  have hw := okA_weight hok x (List.mem_of_getElem? hx)
  have hl : ∀ e, far t = some e → d + x.2.2 < e := fun e he => by rw [valI_some he] at hlt; exact hlt
  obtain ⟨htd, g1, g2⟩ := h.base.yes h.last hx hw0 h1 h2 ht h.at_ hl
  have hut : u ≠ t := fun e => by subst e; rw [h.dnu] at htd; cases htd
  have hlow := h.low
  refine ⟨g1, g2, (h.led.yes hx h1 h2 h.at_ hut htd hl).sub (fun q hq => hq.succ hj), by unfold farSet; rw [if_neg hut]; exact h.at_, h.dnu, fun i e hi => ?_, h.low⟩
  unfold farSet at hi
  by_cases ei : i = t
  · rw [if_pos ei] at hi
    injection hi with hi
    omega
  · rw [if_neg ei] at hi
    exact h.bnd i e hi
theorem SrchI.done (h : SrchI l s N u d far dn Q j) (hj : (outK l u).length ≤ j) : SrchH l s N far dn Q := ⟨h.base, h.led.all (fun k hk => LkN.all hj k hk), h.bnd⟩
theorem valI_farSet (t i : Nat) (d : Int) : (if i = t then d else valI far i) = valI (farSet far t d) i := by
  by_cases e : i = t <;> simp [valI, farSet, e]
end Go.Proofs.Ytchdpapaojkbhaa
end
