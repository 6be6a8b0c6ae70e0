/- Shortest ways where each arc weighs something: by their words; and sweeps that make them. No Go in sight. -/
import Derived.Test.YtchdpapaojkbhaaRows
namespace Go.Proofs.Ytchdpapaojkbhaa

/-- From node s one comes to this node, by k arcs that weigh d. -/
inductive WayF (W : Nat → Nat → Option Int) (s : Nat) : Nat → Nat → Int → Prop
  | nil : WayF W s s 0 0
  | snoc {i j k : Nat} {d c : Int} (h : WayF W s i k d) (hx : W i j = some c) : WayF W s j (k + 1) (d + c)
variable {W W2 : Nat → Nat → Option Int} {s i j k m N r : Nat} {d e c : Int}
theorem WayF.turn (h : WayF W s i k d) (hk : k = m) (hd : d = e) : WayF W s i m e := by subst hk hd; exact h
theorem WayF.append (h : WayF W s i k d) (h2 : WayF W i j m e) : WayF W s j (k + m) (d + e) := by
  induction h2 with
  | nil => exact h.turn (by omega) (by omega)
  | snoc _ hx ih => exact (ih.snoc hx).turn (by omega) (by omega)
theorem WayF.one (hx : W i j = some c) : WayF W i j 1 c := (WayF.nil.snoc hx).turn (by omega) (by omega)
/-- The other way round. -/
theorem WayF.back (hW : ∀ i j c, W i j = some c → W2 j i = some c) (h : WayF W s i k d) : WayF W2 i s k d := by
  induction h with
  | nil => exact .nil
  | snoc _ hx ih => exact ((WayF.one (hW _ _ _ hx)).append ih).turn (by omega) (by omega)
/-- Arcs lead between the first N nodes, and weigh nothing at least. -/
structure GoodW_ (W : Nat → Nat → Option Int) (N : Nat) : Prop where
  lt : ∀ i j c, W i j = some c → i < N ∧ j < N
  pos : ∀ i j c, W i j = some c → 0 ≤ c
theorem WayF.pos (hW : GoodW_ W N) (h : WayF W s i k d) : 0 ≤ d := by
  induction h with
  | nil => omega
  | snoc _ hx ih => have := hW.pos _ _ _ hx; omega
theorem WayF.lt (hW : GoodW_ W N) (hs : s < N) (h : WayF W s i k d) : i < N := by
  cases h with
  | nil => exact hs
  | snoc _ hx => exact (hW.lt _ _ _ hx).2
theorem pigeonF : ∀ (n : Nat) (f : Nat → Nat), (∀ t, t ≤ n → f t < n) → ∃ a b, a < b ∧ b ≤ n ∧ f a = f b
  | 0, f, h => absurd (h 0 (Nat.le_refl 0)) (by omega)
  | n + 1, f, h => by
    by_cases hex : ∃ a, a ≤ n ∧ f a = f (n + 1)
    · obtain ⟨a, ha, he⟩ := hex
      exact ⟨a, n + 1, by omega, Nat.le_refl _, he⟩
    · have hne : ∀ a, a ≤ n → f a ≠ f (n + 1) := fun a ha he => hex ⟨a, ha, he⟩
      have hv := h (n + 1) (Nat.le_refl _)
      obtain ⟨a, b, hab, hb, he⟩ := pigeonF n (fun t => if f t = n then f (n + 1) else f t) (fun t ht => by
        have h1 := h t (by omega)
        have h2 := hne t ht
        by_cases e : f t = n
        · simp only [e, if_true]; omega
        · simp only [e, if_false]; omega)
      refine ⟨a, b, hab, by omega, ?_⟩
      have h1 := hne a (by omega)
      have h2 := hne b hb
      by_cases e1 : f a = n
      · by_cases e2 : f b = n
        · rw [e1, e2]
        · simp only [e1, e2, if_true, if_false] at he
          exact absurd he.symm h2
      · by_cases e2 : f b = n
        · simp only [e1, e2, if_true, if_false] at he
          exact absurd he h1
        · simp only [e1, e2, if_false] at he
          exact he
/-- The nodes of a way, one by one. -/
theorem WayF.trace (h : WayF W s i k d) : ∃ (v : Nat → Nat) (D : Nat → Int), v 0 = s ∧ v k = i ∧ D 0 = 0 ∧ D k = d ∧ ∀ a b, a ≤ b → b ≤ k → WayF W (v a) (v b) (b - a) (D b - D a) := by
  induction h with
  | nil => exact ⟨fun _ => s, fun _ => 0, rfl, rfl, rfl, rfl, fun a b h1 h2 => WayF.nil.turn (by omega) (by simp)⟩
  | snoc h hx ih =>
    rename_i i j k d c
    obtain ⟨v, D, v0, vk, D0, Dk, hw⟩ := ih
    refine ⟨fun t => if t = k + 1 then j else v t, fun t => if t = k + 1 then d + c else D t, ?_, ?_, ?_, ?_, fun a b h1 h2 => ?_⟩
    · simp [v0]
    · simp
    · simp [D0]
    · simp
    · by_cases hb : b = k + 1
      · subst hb
        by_cases ha : a = k + 1
        · subst ha
          exact WayF.nil.turn (by omega) (by simp)
        · have h3 := hw a k (by omega) (Nat.le_refl _)
          rw [vk, Dk] at h3
          simp only [ha, if_false, if_true]
          exact (h3.snoc hx).turn (by omega) (by omega)
      · have ha : ¬ a = k + 1 := by omega
        simp only [ha, hb, if_false]
        exact hw a b h1 (by omega)
/-- A way by fewer arcs than there are nodes is as light. -/
theorem WayF.short (hW : GoodW_ W N) (hs : s < N) : ∀ (k : Nat) {i : Nat} {d : Int}, WayF W s i k d → ∃ k' d', k' < N ∧ d' ≤ d ∧ WayF W s i k' d' := by
  intro k
  induction k using Nat.strongRecOn with
  | _ k ih =>
    intro i d h
    by_cases hk : k < N
    · exact ⟨k, d, hk, Int.le_refl _, h⟩
    · obtain ⟨v, D, v0, vk, D0, Dk, hw⟩ := h.trace
      have hin : ∀ t, t ≤ N → v t < N := fun t ht => by
        have := hw 0 t (by omega) (by omega)
        rw [v0] at this
        exact this.lt hW hs
      obtain ⟨a, b, hab, hb, he⟩ := pigeonF N v hin
      have w1 := hw 0 a (by omega) (by omega)
      have w2 := hw a b (by omega) (by omega)
      have w3 := hw b k (by omega) (by omega)
      rw [v0] at w1
      rw [← he] at w3
      rw [vk] at w3
      have hc := w2.pos hW
      obtain ⟨k', d', h1, h2, h3⟩ := ih (a - 0 + (k - b)) (by omega) (w1.append w3)
      exact ⟨k', d', h1, by omega, h3⟩
/-- What the shortest way from there to here weighs. -/
def LeastW (W : Nat → Nat → Option Int) (s i : Nat) (d : Int) : Prop := (∃ k, WayF W s i k d) ∧ ∀ k c, WayF W s i k c → d ≤ c
theorem LeastW.unique (h : LeastW W s i d) (h2 : LeastW W s i e) : d = e := by
  obtain ⟨k, hw⟩ := h.1
  obtain ⟨k2, hw2⟩ := h2.1
  have := h.2 _ _ hw2
  have := h2.2 _ _ hw
  omega
theorem LeastW.back (hW : ∀ i j c, W i j = some c ↔ W2 j i = some c) (h : LeastW W s i d) : LeastW W2 i s d := by
  obtain ⟨⟨k, hw⟩, h2⟩ := h
  exact ⟨⟨k, hw.back fun i j c hc => (hW i j c).1 hc⟩, fun k c hw => h2 k c (hw.back fun i j c hc => (hW j i c).2 hc)⟩
/-! ### Arcs between the nodes that are let through, with what one stays where they begin -/
def arcW (T : Nat → Nat → Int) (S : Nat → Int) (M : Nat → Bool) (N : Nat) (i k : Nat) : Option Int := if i < N ∧ k < N ∧ i ≠ k ∧ M i = true ∧ M k = true then some (S i + T i k) else none
variable {T D D2 : Nat → Nat → Int} {S : Nat → Int} {M : Nat → Bool} {dn dn2 : Nat → Nat → Nat → Prop}
theorem arcW_some : arcW T S M N i k = some c ↔ (i < N ∧ k < N ∧ i ≠ k ∧ M i = true ∧ M k = true) ∧ c = S i + T i k := by
  unfold arcW
  split
  · rename_i h
    exact ⟨fun e => ⟨h, by injection e with e; exact e.symm⟩, fun e => by rw [e.2]⟩
  · rename_i h
    exact ⟨fun e => (by cases e), fun e => absurd e.1 h⟩
theorem arcW_good (hT : ∀ i k, i < N → k < N → 0 ≤ T i k) (hS : ∀ i, i < N → 0 ≤ S i) : GoodW_ (arcW T S M N) N :=
  ⟨fun i j c h => ⟨(arcW_some.1 h).1.1, (arcW_some.1 h).1.2.1⟩, fun i j c h => by
    obtain ⟨⟨h1, h2, _⟩, rfl⟩ := arcW_some.1 h
    have := hT i j h1 h2
    have := hS i h1
    omega⟩
/-- Sweeps over all triples: after r of them, and some triples of the next one (dn). -/
structure Sweep (T : Nat → Nat → Int) (S : Nat → Int) (M : Nat → Bool) (N : Nat) (D : Nat → Nat → Int) (r : Nat) (dn : Nat → Nat → Nat → Prop) : Prop where
  att : ∀ i k, i < N → k < N → M i = true → M k = true → i ≠ k → ∃ m, WayF (arcW T S M N) i k m (D i k + S i)
  le : ∀ i k, i < N → k < N → M i = true → M k = true → i ≠ k → D i k ≤ T i k
  diag : ∀ i, i < N → M i = true → D i i = 0
  low : ∀ i k m c, i ≠ k → m ≤ r + 1 → WayF (arcW T S M N) i k m c → D i k + S i ≤ c
  done : ∀ i k j, dn i k j → i ≠ j → i ≠ k → ∀ m c e, m ≤ r + 1 → WayF (arcW T S M N) i j m c → arcW T S M N j k = some e → D i k + S i ≤ c + e
theorem way_in (h : WayF (arcW T S M N) i k m c) (hne : i ≠ k) : i < N ∧ k < N ∧ M i = true ∧ M k = true := by
  have h1 : ∀ {k m c}, WayF (arcW T S M N) i k m c → k = i ∨ (i < N ∧ M i = true) := fun h => by
    induction h with
    | nil => exact .inl rfl
    | snoc _ hx ih =>
      obtain ⟨⟨a1, a2, a3, a4, a5⟩, _⟩ := arcW_some.1 hx
      rcases ih with rfl | ih
      · exact .inr ⟨a1, a4⟩
      · exact .inr ih
  have h2 := h1 h
  cases h with
  | nil => exact absurd rfl hne
  | snoc _ hx =>
    obtain ⟨⟨a1, a2, a3, a4, a5⟩, _⟩ := arcW_some.1 hx
    rcases h2 with e | ⟨b1, b2⟩
    · exact absurd e.symm hne
    · exact ⟨b1, a2, b2, a5⟩
theorem Sweep.begin_ (h0 : ∀ i, i < N → M i = true → D i i = 0) (h1 : ∀ i k, i < N → k < N → M i = true → M k = true → i ≠ k → D i k = T i k) : Sweep T S M N D 0 (fun _ _ _ => False) where
  att i k hi hk mi mk hne := ⟨1, (WayF.one (arcW_some.2 ⟨⟨hi, hk, hne, mi, mk⟩, rfl⟩)).turn rfl (by rw [h1 i k hi hk mi mk hne]; omega)⟩
  le i k hi hk mi mk hne := by rw [h1 i k hi hk mi mk hne]; exact Int.le_refl _
  diag := h0
  low i k m c hne hm h := by
    cases h with
    | nil => exact absurd rfl hne
    | snoc h2 hx =>
      obtain ⟨⟨a1, a2, a3, a4, a5⟩, rfl⟩ := arcW_some.1 hx
      cases h2 with
      | nil => rw [h1 _ _ a1 a2 a4 a5 hne]; omega
      | snoc _ _ => omega
  done i k j h := absurd h id
/-- One triple more. -/
def putD (D : Nat → Nat → Int) (i k : Nat) (z : Int) : Nat → Nat → Int := fun i2 k2 => if i2 = i ∧ k2 = k then z else D i2 k2
theorem way_first (hT : ∀ i k, i < N → k < N → 0 ≤ T i k) (hS : ∀ i, i < N → 0 ≤ S i) (h : WayF (arcW T S M N) i k m c) : (m = 0 ∧ k = i ∧ c = 0) ∨ S i ≤ c := by
  induction h with
  | nil => exact .inl ⟨rfl, rfl, rfl⟩
  | snoc _ hx ih =>
    obtain ⟨⟨a1, a2, a3, a4, a5⟩, rfl⟩ := arcW_some.1 hx
    have h1 := hT _ _ a1 a2
    have h2 := hS _ a1
    rcases ih with ⟨_, rfl, rfl⟩ | h3
    · right; omega
    · right; omega
theorem Sweep.pos (h : Sweep T S M N D r dn) (hT : ∀ i k, i < N → k < N → 0 ≤ T i k) (hS : ∀ i, i < N → 0 ≤ S i) (hi : i < N) (hk : k < N) (mi : M i = true) (mk : M k = true) : 0 ≤ D i k := by
  by_cases e : i = k
  · subst e; rw [h.diag i hi mi]; omega
  · obtain ⟨m, hw⟩ := h.att i k hi hk mi mk e
    rcases way_first hT hS hw with ⟨_, e2, _⟩ | h2
    · exact absurd e2.symm e
    · omega
theorem Sweep.step (h : Sweep T S M N D r dn) (hT : ∀ i k, i < N → k < N → 0 ≤ T i k) (hS : ∀ i, i < N → 0 ≤ S i) (hi : i < N) (hj : j < N) (hk : k < N) (mi : M i = true) (mj : M j = true) (mk : M k = true) (hij : i ≠ j) (hjk : j ≠ k) (z : Int) (hz : z = min (D i k) (D i j + S j + D j k)) :
    Sweep T S M N (putD D i k z) r (fun a b c => dn a b c ∨ (a = i ∧ b = k ∧ c = j)) := by
  have p1 := h.pos hT hS hi hj mi mj
  have p2 := h.pos hT hS hj hk mj mk
  have p3 := hS j hj
  have hle : ∀ a b, putD D i k z a b ≤ D a b := fun a b => by
    unfold putD
    split
    · rename_i e; rw [e.1, e.2]; omega
    · exact Int.le_refl _
  refine ⟨fun a b ha hb ma mb hne => ?_, fun a b ha hb ma mb hne => Int.le_trans (hle a b) (h.le a b ha hb ma mb hne), fun a ha ma => ?_, fun a b m c hne hm hw => ?_, fun a b q hd hne hne2 m c e hm hw hx => ?_⟩
  · unfold putD
    split
    · rename_i e
      obtain ⟨rfl, rfl⟩ := e
      by_cases hlt : D a b ≤ D a j + S j + D j b
      · obtain ⟨m, hw⟩ := h.att a b ha hb ma mb hne
        exact ⟨m, hw.turn rfl (by omega)⟩
      · obtain ⟨m1, w1⟩ := h.att a j ha hj ma mj hij
        obtain ⟨m2, w2⟩ := h.att j b hj hb mj mb hjk
        exact ⟨m1 + m2, (w1.append w2).turn rfl (by omega)⟩
    · exact h.att a b ha hb ma mb hne
  · unfold putD
    split
    · rename_i e
      obtain ⟨rfl, rfl⟩ := e
      have := h.diag a ha ma
      omega
    · exact h.diag a ha ma
  · have := h.low a b m c hne hm hw
    have := hle a b
    omega
  · rcases hd with hd | ⟨rfl, rfl, rfl⟩
    · have := h.done a b q hd hne hne2 m c e hm hw hx
      have := hle a b
      omega
    · have h1 := h.low a q m c hne hm hw
      have h2 := h.le q b hj hk mj mk hjk
      obtain ⟨_, rfl⟩ := arcW_some.1 hx
      unfold putD
      rw [if_pos ⟨rfl, rfl⟩]
      omega
theorem Sweep.skip (h : Sweep T S M N D r dn) (hc : ¬ (i ≠ j ∧ j ≠ k ∧ M j = true ∧ M i = true ∧ M k = true)) :
    Sweep T S M N D r (fun a b c => dn a b c ∨ (a = i ∧ b = k ∧ c = j)) :=
  ⟨h.att, h.le, h.diag, h.low, fun a b q hd hne hne2 m c e hm hw hx => by
    rcases hd with hd | ⟨rfl, rfl, rfl⟩
    · exact h.done a b q hd hne hne2 m c e hm hw hx
    · obtain ⟨⟨_, _, a3, a4, a5⟩, _⟩ := arcW_some.1 hx
      exact absurd ⟨hne, a3, a4, (way_in hw hne).2.2.1, a5⟩ hc⟩
theorem Sweep.sub (h : Sweep T S M N D r dn) (hd : ∀ i k j, dn2 i k j → dn i k j) : Sweep T S M N D r dn2 := ⟨h.att, h.le, h.diag, h.low, fun a b q hq => h.done a b q (hd a b q hq)⟩
theorem Sweep.next (h : Sweep T S M N D r dn) (hT : ∀ i k, i < N → k < N → 0 ≤ T i k) (hS : ∀ i, i < N → 0 ≤ S i) (hall : ∀ i k j, i < N → k < N → j < N → dn i k j) : Sweep T S M N D (r + 1) (fun _ _ _ => False) :=
  ⟨h.att, h.le, h.diag, fun i k m c hne hm hw => by
    obtain ⟨hi, hk, mi, mk⟩ := way_in hw hne
    cases hw with
    | nil => exact absurd rfl hne
    | snoc w0 hx =>
      rename_i j m0 c0 e
      by_cases hij : i = j
      · subst hij
        have h0 := w0.pos (arcW_good hT hS)
        have h1 := h.le i k hi hk mi mk hne
        obtain ⟨_, rfl⟩ := arcW_some.1 hx
        omega
      · exact h.done i k j (hall i k j hi hk (arcW_some.1 hx).1.1) hij hne _ _ _ (by omega) w0 hx, fun _ _ _ h => absurd h id⟩
/-- What a sweep tells of two nodes. -/
theorem Sweep.least (h : Sweep T S M N D r dn) (hT : ∀ i k, i < N → k < N → 0 ≤ T i k) (hS : ∀ i, i < N → 0 ≤ S i) (hr : N ≤ r + 2) (hi : i < N) (hk : k < N) (mi : M i = true) (mk : M k = true) (hne : i ≠ k) : LeastW (arcW T S M N) i k (D i k + S i) :=
  ⟨h.att i k hi hk mi mk hne, fun m c hw => by
    obtain ⟨m2, c2, h1, h2, hw2⟩ := hw.short (arcW_good hT hS) hi
    have := h.low i k m2 c2 hne (by omega) hw2
    omega⟩
end Go.Proofs.Ytchdpapaojkbhaa
