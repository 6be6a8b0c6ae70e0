/- Flows and cuts. (Plain mathematics.) -/
import Derived.Test.YtifhapmblofmkaaPipes
namespace Go.Proofs.Ytifhapmblofmkaa

/-! ### Sums over nodes -/
def sumN : Nat → (Nat → Int) → Int
  | 0, _ => 0
  | n + 1, f => sumN n f + f n
theorem sumN_congr {f g : Nat → Int} : ∀ {n : Nat}, (∀ i, i < n → f i = g i) → sumN n f = sumN n g
  | 0, _ => rfl
  | n + 1, h => by rw [sumN, sumN, sumN_congr (fun i hi => h i (by omega)), h n (by omega)]
theorem sumN_add (f g : Nat → Int) : ∀ n, sumN n (fun i => f i + g i) = sumN n f + sumN n g
  | 0 => rfl
  | n + 1 => by rw [sumN, sumN, sumN, sumN_add f g n]; omega
theorem sumN_zero : ∀ {n : Nat} {f : Nat → Int}, (∀ i, i < n → f i = 0) → sumN n f = 0
  | 0, _, _ => rfl
  | n + 1, f, h => by rw [sumN, sumN_zero (fun i hi => h i (by omega)), h n (by omega)]; rfl
/-- One term alone. -/
theorem sumN_one {s : Nat} {f : Nat → Int} : ∀ {n : Nat}, s < n → (∀ i, i < n → i ≠ s → f i = 0) → sumN n f = f s
  | n + 1, hs, h => by
    rw [sumN]
    by_cases e : s = n
    · subst e
      rw [sumN_zero (fun i hi => h i (by omega) (by omega))]
      omega
    · rw [sumN_one (n := n) (by omega) (fun i hi => h i (by omega)), h n (by omega) (fun e2 => e e2.symm)]
      omega
theorem sumN_two {s t : Nat} {f : Nat → Int} (hst : s ≠ t) : ∀ {n : Nat}, s < n → t < n → (∀ i, i < n → i ≠ s → i ≠ t → f i = 0) → sumN n f = f s + f t
  | n + 1, hs, ht, h => by
    rw [sumN]
    by_cases e : s = n
    · subst e
      rw [sumN_one (s := t) (by omega) (fun i hi hit => h i (by omega) (by omega) hit)]
      omega
    · by_cases e2 : t = n
      · subst e2
        rw [sumN_one (s := s) (by omega) (fun i hi his => h i (by omega) his (by omega))]
      · rw [sumN_two hst (n := n) (by omega) (by omega) (fun i hi => h i (by omega)), h n (by omega) (fun e3 => e e3.symm) (fun e3 => e2 e3.symm)]
        omega

/-! ### Sums over pipes -/
/-- The sum of something over the first k pipes. -/
def sumP (l : List Pi) (g : Nat → Pi → Int) : Nat → Int
  | 0 => 0
  | k + 1 => sumP l g k + (match l[k]? with | some x => g k x | none => 0)
variable {l : List Pi} {N s t k : Nat} {fl : Nat → Int} {S : Nat → Bool} {x : Pi}
theorem sumP_step {g : Nat → Pi → Int} (hx : l[k]? = some x) : sumP l g (k + 1) = sumP l g k + g k x := by rw [sumP, hx]
theorem sumP_le {g h : Nat → Pi → Int} (hgh : ∀ (k : Nat) (x : Pi), l[k]? = some x → g k x ≤ h k x) : ∀ k, sumP l g k ≤ sumP l h k
  | 0 => Int.le_refl _
  | k + 1 => by
    have ih := sumP_le hgh k
    rw [sumP, sumP]
    cases hx : l[k]? with
    | none => simp only; omega
    | some x => have := hgh k x hx; simp only; omega
theorem sumP_congr {g h : Nat → Pi → Int} (hgh : ∀ (k : Nat) (x : Pi), l[k]? = some x → g k x = h k x) (k : Nat) : sumP l g k = sumP l h k :=
  Int.le_antisymm (sumP_le (fun k x hx => by rw [hgh k x hx]; exact Int.le_refl _) k) (sumP_le (fun k x hx => by rw [hgh k x hx]; exact Int.le_refl _) k)
theorem sumP_nil (l : List Pi) : ∀ k, sumP l (fun _ _ => 0) k = 0
  | 0 => rfl
  | k + 1 => by
    rw [sumP, sumP_nil l k]
    cases l[k]? <;> rfl
theorem sumP_add (l : List Pi) (g h : Nat → Pi → Int) : ∀ k, sumP l (fun k x => g k x + h k x) k = sumP l g k + sumP l h k
  | 0 => rfl
  | k + 1 => by
    rw [sumP, sumP, sumP, sumP_add l g h k]
    cases l[k]? with
    | none => simp only; omega
    | some x => simp only; omega
theorem sumP_sub (l : List Pi) (g h : Nat → Pi → Int) : ∀ k, sumP l (fun k x => g k x - h k x) k = sumP l g k - sumP l h k
  | 0 => rfl
  | k + 1 => by
    rw [sumP, sumP, sumP, sumP_sub l g h k]
    cases l[k]? with
    | none => simp only; omega
    | some x => simp only; omega
theorem sumP_neg (l : List Pi) (g : Nat → Pi → Int) : ∀ k, sumP l (fun k x => - g k x) k = - sumP l g k
  | 0 => rfl
  | k + 1 => by
    rw [sumP, sumP, sumP_neg l g k]
    cases l[k]? with
    | none => simp only; omega
    | some x => simp only; omega
/-- Terms that are nowhere below nothing: bounds, and what a sum of nothing says. -/
theorem sumP_nonneg {g : Nat → Pi → Int} (hg : ∀ (k : Nat) (x : Pi), l[k]? = some x → 0 ≤ g k x) (k : Nat) : 0 ≤ sumP l g k := by
  have := sumP_le (l := l) (g := fun _ _ => 0) hg k
  rw [sumP_nil] at this
  exact this
theorem sumP_none {g : Nat → Pi → Int} (hg : ∀ (k : Nat) (x : Pi), l[k]? = some x → 0 ≤ g k x) : ∀ (n : Nat), sumP l g n = 0 → ∀ (k : Nat) (x : Pi), k < n → l[k]? = some x → g k x = 0
  | 0, _, _, _, h, _ => by omega
  | n + 1, h, k, x, hk, hx => by
    have h1 := sumP_nonneg hg n
    rw [sumP] at h
    by_cases e : k = n
    · subst e
      rw [hx] at h
      have := hg k x hx
      simp only at h
      omega
    · refine sumP_none hg n ?_ k x (by omega) hx
      cases hy : l[n]? with
      | none => rw [hy] at h; simp only at h; omega
      | some y => rw [hy] at h; have := hg n y hy; simp only at h; omega
theorem sumP_bound {g : Nat → Pi → Int} {B : Int} (hB : 0 ≤ B) (hg : ∀ (k : Nat) (x : Pi), l[k]? = some x → -B ≤ g k x ∧ g k x ≤ B) : ∀ k : Nat, -((k : Int) * B) ≤ sumP l g k ∧ sumP l g k ≤ (k : Int) * B
  | 0 => by simp [sumP]
  | k + 1 => by
    obtain ⟨h1, h2⟩ := sumP_bound hB hg k
    have e : ((k + 1 : Nat) : Int) * B = (k : Int) * B + B := by rw [Int.natCast_add, Int.add_mul]; simp
    rw [sumP, e]
    cases hx : l[k]? with
    | none => simp only; omega
    | some x => have := hg k x hx; simp only; omega

/-! ### Flows -/
/-- What a pipe brings to node i. -/
def brings (fl : Nat → Int) (i : Int) (k : Nat) (x : Pi) : Int := (if x.2.1 = i then fl k else 0) - (if x.1 = i then fl k else 0)
def netTo (l : List Pi) (fl : Nat → Int) (i : Int) (k : Nat) : Int := sumP l (brings fl i) k
/-- A flow. -/
structure IsFlow (l : List Pi) (N : Nat) (fl : Nat → Int) (s t : Nat) : Prop where
  cap : ∀ (k : Nat) (x : Pi), l[k]? = some x → 0 ≤ fl k ∧ fl k ≤ x.2.2.1
  cons : ∀ i : Nat, i < N → i ≠ s → i ≠ t → netTo l fl (i : Int) l.length = 0
  ge : 0 ≤ netTo l fl (t : Int) l.length
/-- Does a pipe lead out of S; into it? -/
def outB (S : Nat → Bool) (x : Pi) : Bool := S x.1.toNat && !S x.2.1.toNat
def inB (S : Nat → Bool) (x : Pi) : Bool := !S x.1.toNat && S x.2.1.toNat
/-- What goes through a cut. -/
def capOut (l : List Pi) (S : Nat → Bool) (k : Nat) : Int := sumP l (fun _ x => if outB S x = true then x.2.2.1 else 0) k
/-- What flows out of S, less what flows into it. -/
def across (fl : Nat → Int) (S : Nat → Bool) (k : Nat) (x : Pi) : Int := (if outB S x = true then fl k else 0) - (if inB S x = true then fl k else 0)
theorem inside (hok : ∀ x ∈ l, okP (N : Int) x = true) (fl : Nat → Int) (S : Nat → Bool) : ∀ k, sumN N (fun i => if S i = true then netTo l fl (i : Int) k else 0) = - sumP l (across fl S) k
  | 0 => by
    rw [sumN_zero (fun i _ => by by_cases h : S i = true <;> simp [h, netTo, sumP])]
    rfl
  | k + 1 => by
    cases hx : l[k]? with
    | none =>
      have e : ∀ g : Nat → Pi → Int, sumP l g (k + 1) = sumP l g k := fun g => by rw [sumP, hx]; simp
      rw [e, ← inside hok fl S k]
      apply sumN_congr
      intro i _
      simp only [netTo, e]
    | some x =>
      have hxo := okP_true.1 (hok x (List.mem_of_getElem? hx))
      obtain ⟨f, hf⟩ : ∃ f : Nat, x.1 = (f : Int) := ⟨x.1.toNat, by omega⟩
      obtain ⟨t, ht⟩ : ∃ t : Nat, x.2.1 = (t : Int) := ⟨x.2.1.toNat, by omega⟩
      have hfN : f < N := by omega
      have htN : t < N := by omega
      rw [sumP_step hx]
      have e1 : sumN N (fun i => if S i = true then netTo l fl (i : Int) (k + 1) else 0) = sumN N (fun i => (if S i = true then netTo l fl (i : Int) k else 0) + (if S i = true then brings fl (i : Int) k x else 0)) := by
        apply sumN_congr
        intro i _
        by_cases h : S i = true
        · simp only [h, if_true, netTo, sumP_step hx]
        · simp only [h]; rfl
      have e2 : sumN N (fun i => if S i = true then brings fl (i : Int) k x else 0) = - across fl S k x := by
        have e3 : sumN N (fun i => if S i = true then brings fl (i : Int) k x else 0) = sumN N (fun i => (if i = t then (if S t = true then fl k else 0) else 0) + (if i = f then (if S f = true then - fl k else 0) else 0)) := by
          apply sumN_congr
          intro i _
          have a1 : (x.2.1 = (i : Int)) ↔ i = t := by rw [ht]; omega
          have a2 : (x.1 = (i : Int)) ↔ i = f := by rw [hf]; omega
          unfold brings
          simp only [a1, a2]
          by_cases h1 : i = t
          · by_cases h2 : i = f
            · subst h1; subst h2; by_cases h : S i = true <;> simp [h] <;> omega
            · subst h1; by_cases h : S i = true <;> simp [h, h2]
          · by_cases h2 : i = f
            · subst h2; by_cases h : S i = true <;> simp [h, h1]
            · by_cases h : S i = true <;> simp [h, h1, h2]
        rw [e3, sumN_add, sumN_one (s := t) htN (fun i _ h => by simp [h]), sumN_one (s := f) hfN (fun i _ h => by simp [h])]
        have b1 : x.1.toNat = f := by omega
        have b2 : x.2.1.toNat = t := by omega
        unfold across outB inB
        rw [b1, b2]
        cases h1 : S t <;> cases h2 : S f <;> simp <;> omega
      rw [e1, sumN_add, inside hok fl S k, e2]
      omega
/-- What a flow brings is what goes through any cut. -/
theorem IsFlow.through (h : IsFlow l N fl s t) (hok : ∀ x ∈ l, okP (N : Int) x = true) (hs : s < N) (ht : t < N) (hst : s ≠ t) (h1 : S s = true) (h2 : S t = false) : netTo l fl (t : Int) l.length = sumP l (across fl S) l.length := by
  have e1 := inside hok fl S l.length
  have e2 := inside hok fl (fun _ => true) l.length
  rw [sumN_one (s := s) hs (fun i hi his => by
    by_cases hit : i = t
    · subst hit; simp [h2]
    · rw [h.cons i hi his hit]; simp)] at e1
  rw [if_pos h1] at e1
  have e3 : sumP l (across fl (fun _ => true)) l.length = 0 := by
    rw [sumP_congr (h := fun _ _ => 0) (fun k x _ => by simp [across, outB, inB]) _, sumP_nil]
  rw [e3, sumN_two hst hs ht (fun i hi his hit => by simp [h.cons i hi his hit])] at e2
  simp only [if_true] at e2
  omega
/-- What is left of a cut: room of what leads out of it, what flows into it. -/
def slack (fl : Nat → Int) (S : Nat → Bool) (k : Nat) (x : Pi) : Int := (if outB S x = true then x.2.2.1 - fl k else 0) + (if inB S x = true then fl k else 0)
theorem IsFlow.slack_nonneg (h : IsFlow l N fl s t) (S : Nat → Bool) (k : Nat) (x : Pi) (hx : l[k]? = some x) : 0 ≤ slack fl S k x := by
  have := h.cap k x hx
  unfold slack
  split <;> split <;> omega
theorem IsFlow.slack_sum (h : IsFlow l N fl s t) (hok : ∀ x ∈ l, okP (N : Int) x = true) (hs : s < N) (ht : t < N) (hst : s ≠ t) (h1 : S s = true) (h2 : S t = false) : capOut l S l.length = netTo l fl (t : Int) l.length + sumP l (slack fl S) l.length := by
  rw [h.through hok hs ht hst h1 h2, ← sumP_add]
  unfold capOut
  apply sumP_congr
  intro k x _
  unfold across slack
  by_cases a : outB S x = true
  · by_cases b : inB S x = true
    · simp [a, b] <;> omega
    · simp [a, b] <;> omega
  · by_cases b : inB S x = true
    · simp [a, b] <;> omega
    · simp [a, b]
/-- No more flows than goes through a cut. -/
theorem IsFlow.weak (h : IsFlow l N fl s t) (hok : ∀ x ∈ l, okP (N : Int) x = true) (hs : s < N) (ht : t < N) (hst : s ≠ t) (h1 : S s = true) (h2 : S t = false) : netTo l fl (t : Int) l.length ≤ capOut l S l.length := by
  have e := h.slack_sum hok hs ht hst h1 h2
  have := sumP_nonneg (h.slack_nonneg S) l.length
  omega
/-- As much flows as goes through the cut: it is full. -/
theorem IsFlow.full (h : IsFlow l N fl s t) (hok : ∀ x ∈ l, okP (N : Int) x = true) (hs : s < N) (ht : t < N) (hst : s ≠ t) (h1 : S s = true) (h2 : S t = false) (he : capOut l S l.length = netTo l fl (t : Int) l.length) :
    ∀ (k : Nat) (x : Pi), l[k]? = some x → (outB S x = true → fl k = x.2.2.1) ∧ (inB S x = true → fl k = 0) := fun k x hx => by
  have e := h.slack_sum hok hs ht hst h1 h2
  have hz := sumP_none (h.slack_nonneg S) l.length (by omega) k x (List.getElem?_eq_some_iff.1 hx).1 hx
  have hc := h.cap k x hx
  unfold slack at hz
  refine ⟨fun a => ?_, fun b => ?_⟩
  · rw [if_pos a] at hz
    split at hz <;> omega
  · rw [if_pos b] at hz
    split at hz <;> omega
theorem IsFlow.tight (h : IsFlow l N fl s t) (hok : ∀ x ∈ l, okP (N : Int) x = true) (hs : s < N) (ht : t < N) (hst : s ≠ t) (h1 : S s = true) (h2 : S t = false)
    (hf : ∀ (k : Nat) (x : Pi), l[k]? = some x → (outB S x = true → x.2.2.1 ≤ fl k) ∧ (inB S x = true → fl k ≤ 0)) : capOut l S l.length = netTo l fl (t : Int) l.length := by
  have e := h.slack_sum hok hs ht hst h1 h2
  have hz : sumP l (slack fl S) l.length = 0 := by
    rw [sumP_congr (h := fun _ _ => 0) (fun k x hx => by
      obtain ⟨a, b⟩ := hf k x hx
      have hc := h.cap k x hx
      unfold slack
      by_cases a2 : outB S x = true
      · by_cases b2 : inB S x = true
        · have := a a2; have := b b2; simp [a2, b2]; omega
        · have := a a2; simp [a2, b2]; omega
      · by_cases b2 : inB S x = true
        · have := b b2; simp [a2, b2]; omega
        · simp [a2, b2]) _, sumP_nil]
  omega

/-! ### What is left -/
/-- Where one comes to from s by what is left. -/
inductive Res (l : List Pi) (fl : Nat → Int) (s : Nat) : Nat → Prop
  | here : Res l fl s s
  | fwd {f t k : Nat} {x : Pi} (h : Res l fl s f) (hx : l[k]? = some x) (h1 : x.1 = (f : Int)) (h2 : x.2.1 = (t : Int)) (hl : fl k < x.2.2.1) : Res l fl s t
  | back {f t k : Nat} {x : Pi} (h : Res l fl s t) (hx : l[k]? = some x) (h1 : x.1 = (f : Int)) (h2 : x.2.1 = (t : Int)) (hl : 0 < fl k) : Res l fl s f
theorem Res.lt {i : Nat} (h : Res l fl s i) (hok : ∀ x ∈ l, okP (N : Int) x = true) (hs : s < N) : i < N := by
  cases h with
  | here => exact hs
  | fwd h hx h1 h2 hl => have := okP_true.1 (hok _ (List.mem_of_getElem? hx)); omega
  | back h hx h1 h2 hl => have := okP_true.1 (hok _ (List.mem_of_getElem? hx)); omega
/-- One doesn't come out of a full cut. -/
theorem Res.stays {i : Nat} (h : Res l fl s i) (h1 : S s = true) (hf : ∀ (k : Nat) (x : Pi), l[k]? = some x → (outB S x = true → fl k = x.2.2.1) ∧ (inB S x = true → fl k = 0)) : S i = true := by
  induction h with
  | here => exact h1
  | fwd h hx a b hl ih =>
    rename_i f t k x
    cases hS : S t with
    | true => rfl
    | false =>
      have := (hf k x hx).1 (by simp [outB, a, b, ih, hS])
      omega
  | back h hx a b hl ih =>
    rename_i f t k x
    cases hS : S f with
    | true => rfl
    | false =>
      have := (hf k x hx).2 (by simp [inB, a, b, ih, hS])
      omega
/-- A greatest flow: a cut is full. -/
structure IsMost (l : List Pi) (N : Nat) (fl : Nat → Int) (s t : Nat) (m : Int) : Prop where
  flow : IsFlow l N fl s t
  much : m = netTo l fl (t : Int) l.length
  cut : ∃ S : Nat → Bool, S s = true ∧ S t = false ∧ capOut l S l.length = m
/-- What one comes to by what is left of a greatest flow is a least cut. -/
theorem IsMost.reach {much : Int} {c : Nat → Bool} (h : IsMost l N fl s t much) (hok : ∀ x ∈ l, okP (N : Int) x = true) (hs : s < N) (ht : t < N) (hst : s ≠ t) (hc : ∀ i, i < N → (c i = true ↔ Res l fl s i)) :
    c s = true ∧ c t = false ∧ capOut l c l.length = much := by
  obtain ⟨S, h1, h2, h3⟩ := h.cut
  have hfull := h.flow.full hok hs ht hst h1 h2 (by rw [h3, h.much])
  have hcs : c s = true := (hc s hs).2 .here
  have hct : c t = false := by
    cases e : c t with
    | false => rfl
    | true => have := ((hc t ht).1 e).stays h1 hfull; rw [h2] at this; cases this
  refine ⟨hcs, hct, ?_⟩
  rw [h.much]
  refine h.flow.tight hok hs ht hst hcs hct (fun k x hx => ?_)
  have hxo := okP_true.1 (hok x (List.mem_of_getElem? hx))
  obtain ⟨f, hf⟩ : ∃ f : Nat, x.1 = (f : Int) := ⟨x.1.toNat, by omega⟩
  obtain ⟨u, hu⟩ : ∃ u : Nat, x.2.1 = (u : Int) := ⟨x.2.1.toNat, by omega⟩
  refine ⟨fun a => ?_, fun b => ?_⟩
  · simp only [outB, hf, hu, Int.toNat_natCast, Bool.and_eq_true, Bool.not_eq_true'] at a
    apply Classical.byContradiction
    intro hn
    have := (hc u (by omega)).2 (((hc f (by omega)).1 a.1).fwd hx hf hu (by omega))
    rw [a.2] at this
    cases this
  · simp only [inB, hf, hu, Int.toNat_natCast, Bool.and_eq_true, Bool.not_eq_true'] at b
    apply Classical.byContradiction
    intro hn
    have := (hc f (by omega)).2 (((hc u (by omega)).1 b.2).back hx hf hu (by omega))
    rw [b.1] at this
    cases this

/-! ### The other way round -/
def turnP (l : List Pi) : List Pi := l.map fun x => (x.2.1, x.1, x.2.2.1, 0)
theorem turnP_get : (turnP l)[k]? = (l[k]?).map fun x => (x.2.1, x.1, x.2.2.1, 0) := by simp [turnP]
theorem turnP_length (l : List Pi) : (turnP l).length = l.length := by simp [turnP]
theorem netTo_turn (l : List Pi) (fl : Nat → Int) (i : Int) : ∀ k, netTo (turnP l) fl i k = - netTo l fl i k
  | 0 => rfl
  | k + 1 => by
    have ih := netTo_turn l fl i k
    unfold netTo at ih ⊢
    rw [sumP, sumP, ih, turnP_get]
    cases l[k]? with
    | none => simp only [Option.map_none]; omega
    | some x =>
      simp only [Option.map_some, brings]
      rw [Int.neg_add, Int.neg_sub]
theorem net_two (h : ∀ i : Nat, i < N → i ≠ s → i ≠ t → netTo l fl (i : Int) l.length = 0) (hok : ∀ x ∈ l, okP (N : Int) x = true) (hs : s < N) (ht : t < N) (hst : s ≠ t) : netTo l fl (s : Int) l.length + netTo l fl (t : Int) l.length = 0 := by
  have e2 := inside hok fl (fun _ => true) l.length
  have e3 : sumP l (across fl (fun _ => true)) l.length = 0 := by
    rw [sumP_congr (h := fun _ _ => 0) (fun k x _ => by simp [across, outB, inB]) _, sumP_nil]
  rw [e3, sumN_two hst hs ht (fun i hi his hit => by simp [h i hi his hit])] at e2
  simpa using e2
theorem IsFlow.turn (h : IsFlow l N fl s t) (hok : ∀ x ∈ l, okP (N : Int) x = true) (hs : s < N) (ht : t < N) (hst : s ≠ t) :
    IsFlow (turnP l) N fl t s ∧ netTo (turnP l) fl (s : Int) (turnP l).length = netTo l fl (t : Int) l.length := by
  have h2 := net_two h.cons hok hs ht hst
  have h3 := h.ge
  refine ⟨⟨fun k x hx => ?_, fun i hi h4 h5 => ?_, ?_⟩, ?_⟩
  · rw [turnP_get] at hx
    cases hy : l[k]? with
    | none => rw [hy] at hx; cases hx
    | some y => rw [hy] at hx; simp at hx; subst hx; exact h.cap k y hy
  · rw [netTo_turn, turnP_length, h.cons i hi h5 h4]; rfl
  · rw [netTo_turn, turnP_length]; omega
  · rw [netTo_turn, turnP_length]; omega
theorem IsFlow.unturn (h : IsFlow (turnP l) N fl t s) (hok : ∀ x ∈ l, okP (N : Int) x = true) (hs : s < N) (ht : t < N) (hst : s ≠ t) :
    IsFlow l N fl s t ∧ netTo (turnP l) fl (s : Int) (turnP l).length = netTo l fl (t : Int) l.length := by
  have hcons : ∀ i : Nat, i < N → i ≠ s → i ≠ t → netTo l fl (i : Int) l.length = 0 := fun i hi h1 h2 => by
    have := h.cons i hi h2 h1
    rw [netTo_turn, turnP_length] at this
    omega
  have h2 := net_two hcons hok hs ht hst
  have h3 := h.ge
  rw [netTo_turn, turnP_length] at h3
  refine ⟨⟨fun k x hx => ?_, hcons, by omega⟩, by rw [netTo_turn, turnP_length]; omega⟩
  have := h.cap k (x.2.1, x.1, x.2.2.1, 0) (by rw [turnP_get, hx]; rfl)
  exact this
theorem turnP_ok (hok : ∀ x ∈ l, okP (N : Int) x = true) : ∀ x ∈ turnP l, okP (N : Int) x = true := fun x hx => by
  rw [turnP, List.mem_map] at hx
  obtain ⟨y, hy, rfl⟩ := hx
  have := okP_true.1 (hok y hy)
  exact okP_true.2 ⟨this.2.1, this.1, this.2.2.1, by simp only; omega⟩
/-- As much the other way. -/
theorem IsMost.turned {much much2 : Int} {fl2 : Nat → Int} (h : IsMost l N fl s t much) (h2 : IsMost (turnP l) N fl2 t s much2) (hok : ∀ x ∈ l, okP (N : Int) x = true) (hs : s < N) (ht : t < N) (hst : s ≠ t) : much = much2 := by
  obtain ⟨S, a1, a2, a3⟩ := h.cut
  obtain ⟨T, b1, b2, b3⟩ := h2.cut
  obtain ⟨c1, c2⟩ := h.flow.turn hok hs ht hst
  obtain ⟨d1, d2⟩ := h2.flow.unturn hok hs ht hst
  have e1 := c1.weak (turnP_ok hok) ht hs (fun e => hst e.symm) b1 b2
  have e2 := d1.weak hok hs ht hst a1 a2
  have e3 := h.much
  have e4 := h2.much
  omega
end Go.Proofs.Ytifhapmblofmkaa
