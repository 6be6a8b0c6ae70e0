/- What the calls of package path are to answer: for the laws' walks, whatever their text is. -/
import Derived.Test.YtmmhdjibigopfaaTight
import Derived.Test.YtmmhdjibigopfaaBack
namespace Go.Proofs.Ytmmhdjibigopfaa
open Go.RowKit

variable {l : List Ar} {N s i j k : Nat} {d e W : Int} {x : Ar} {far : Nat → Option Int} {by_ : Nat → Int} {ws r : List Int} {a b : Int}
/-! ### Ways by arcs' numbers, joined -/
theorem arcNo_nat (h : l[k]? = some x) : arcNo l (k : Int) = some x := by simp [arcNo, h]
theorem join_app {F : Option (Int × Int)} : ∀ {r : List Int} {a s : Int}, joinO l (r ++ ws) a s = match joinO l r a s with
    | some (p, t) => joinO l ws p t
    | none => none
  | [], a, s => rfl
  | k :: r, a, s => by
    rw [List.cons_append, joinO, joinO]
    cases hk : arcNo l k with
    | none => rfl
    | some x =>
      simp only []
      by_cases h : x.1 = a
      · rw [if_pos h, if_pos h]
        exact join_app (F := F)
      · rw [if_neg h, if_neg h]
theorem wrap_small (h1 : -1102000000000000 ≤ d) (h2 : d ≤ 1102000000000000) : wrap64 d = d := by unfold wrap64; omega
theorem BW.join (hok : ∀ x ∈ l, okA (N : Int) x = true) (h : BW l by_ i j ws W) : ws.length ≤ 1002 → joinO l ws (i : Int) 0 = some ((j : Int), W) := by
  induction h with
  | nil => intro _; rfl
  | snoc hw hb ih =>
    rename_i f j k x r d
    intro hlen
    simp at hlen
    have hb2 := walk_small hok (hw.snoc hb).walk (by simp; omega)
    rw [join_app (F := none), ih (by omega)]
    simp only [joinO, arcNo_nat hb.2.1]
    rw [if_pos hb.2.2.2, hb.2.2.1, wrap_small hb2.1 hb2.2]
theorem WayBy.bw (h : WayBy l s by_ i ws d) : BW l by_ s i ws d := by
  induction h with
  | nil => exact .nil
  | snoc _ hb hx h1 h2 _ ih => exact ih.snoc ⟨hb, hx, h2, h1⟩
/-- Where a way that joins begins. -/
theorem join_first {p : Int × Int} (h : joinO l ws a 0 = some p) (hne : ws ≠ []) : ∃ (k : Nat) (x : Ar) (r : List Int), ws = (k : Int) :: r ∧ l[k]? = some x ∧ x.1 = a := by
  cases ws with
  | nil => exact absurd rfl hne
  | cons k r =>
    rw [joinO] at h
    cases hk : arcNo l k with
    | none => rw [hk] at h; cases h
    | some x =>
      rw [hk] at h
      simp only [] at h
      by_cases e : x.1 = a
      · unfold arcNo at hk
        by_cases h0 : 0 ≤ k
        · rw [if_pos h0] at hk
          exact ⟨k.toNat, x, r, by rw [Int.toNat_of_nonneg h0], hk, e⟩
        · rw [if_neg h0] at hk; cases hk
      · rw [if_neg e] at h; cases h

/-- A tree of the lightest ways. -/
structure TreeOf (l : List Ar) (s : Nat) (far : Nat → Option Int) (by_ : Nat → Int) : Prop where
  told : Told l s far by_
  fixed : Fixed l far
theorem TreeOf.dist (h : TreeOf l s far by_) : Dist l s far := h.told.dist h.fixed
theorem TreeOf.tight (h : TreeOf l s far by_) (N : Nat) : Tight l N s far by_ := ⟨h.told.root, fun i _ => h.told.off i, fun _i _d _ hi hd => h.told.even h.fixed hi hd⟩
theorem TreeOf.past (h : TreeOf l s far by_) (hok : ∀ x ∈ l, okA (N : Int) x = true) (hs : s < N) : ∀ i, ¬ i < N → far i = none := fun i hi => by
  cases e : far i with
  | none => rfl
  | some d =>
    obtain ⟨k, hw⟩ := h.told.att i d e
    exact absurd (hw.lt hok hs) hi
theorem Dist.small (h : Dist l s far) (hok : ∀ x ∈ l, okA (N : Int) x = true) (hs : s < N) (hN : N ≤ 1000) : Small far := fun i d e => by
  obtain ⟨k, hw⟩ := h.att i d e
  obtain ⟨k', d', h1, h2, h3⟩ := Walk.short hok hs h.not_neg k hw
  obtain ⟨d'', e2, h4⟩ := h.low i k' d' h3
  rw [e] at e2
  cases e2
  have : d = d' := by omega
  subst this
  exact walk_small hok h3 (by omega)
/-- What Way answers of a tree. -/
def WayIs (l : List Ar) (s : Nat) (far : Nat → Option Int) (by_ : Nat → Int) (i : Nat) (ws : List Int) : Prop := (far i = none → ws = []) ∧ (∀ d, far i = some d → ∃ e, WayBy l s by_ i ws e)
theorem TreeOf.way (h : TreeOf l s far by_) (hok : ∀ x ∈ l, okA (N : Int) x = true) (hw : WayIs l s far by_ i ws) (hlen : ws.length ≤ 1002) : WayTo l s far by_ i ws := by
  refine ⟨fun ho => ?_, fun d hi hd => ?_⟩
  · rcases ho with ho | ho
    · exact hw.1 ho
    · subst ho
      obtain ⟨e, hb⟩ := hw.2 0 h.told.zero
      exact (WayBy.only (.nil) hb).1
  · obtain ⟨e, hb⟩ := hw.2 d hd
    have he := h.told.way h.fixed hb hd
    subst he
    refine ⟨hb.bw.join hok hlen, ?_⟩
    cases hb with
    | nil => exact absurd rfl hi
    | snoc _ hb2 => exact ⟨_, by rw [hb2]⟩

/-- The error of a call at a graph and a node; 0 if there is none. -/
def fromErr (n : Int) (l : List Ar) (s : Int) : Int := if checkV n l = 0 then (if 0 ≤ s ∧ s < n then 0 else 2) else checkV n l
/-- What the calls of package path are to answer. -/
structure PathSpec : Prop where
  from_ok : ∀ (N s len cap : Nat) (l : List Ar) (a : Option Addr) (w : World), s < N → checkV (N : Int) l = 0 → IsArcs w.heap.size w a len l →
    Calls Try.prog 9 #[.agg #[.int .i64 (N : Int), .slice a len cap], .int .i64 (s : Int)] w fun e w' => Below w.heap.size w w' ∧
      ((∃ a1 c1 a2 c2, e = .returned (.tuple #[.agg #[.slice a1 0 c1, .slice a2 0 c2], .int .i64 7]) ∧ Neg l s) ∨
       ∃ vf vb far by_, e = .returned (.tuple #[.agg #[vf, vb], .int .i64 0]) ∧ LongRow w' w.heap.size vf N (valI far) ∧ IntRow w' w.heap.size vb N by_ ∧ TreeOf l s far by_)
  from_bad : ∀ (n s : Int) (len cap : Nat) (l : List Ar) (a : Option Addr) (w : World), fromErr n l s ≠ 0 → IsArcs w.heap.size w a len l →
    Calls Try.prog 9 #[.agg #[.int .i64 n, .slice a len cap], .int .i64 s] w fun e w' => Below w.heap.size w w' ∧
      ∃ a1 c1 a2 c2, e = .returned (.tuple #[.agg #[.slice a1 0 c1, .slice a2 0 c2], .int .i64 (fromErr n l s)])
  near_bad : ∀ (n s : Int) (len cap : Nat) (l : List Ar) (a : Option Addr) (w : World), fromErr n l s ≠ 0 → IsArcs w.heap.size w a len l →
    Calls Try.prog 16 #[.agg #[.int .i64 n, .slice a len cap], .int .i64 s] w fun e w' => Below w.heap.size w w' ∧
      ∃ a1 c1 a2 c2, e = .returned (.tuple #[.agg #[.slice a1 0 c1, .slice a2 0 c2], .int .i64 (fromErr n l s)])
  cycle_bad : ∀ (n s : Int) (len cap : Nat) (l : List Ar) (a : Option Addr) (w : World), fromErr n l s ≠ 0 → IsArcs w.heap.size w a len l →
    Calls Try.prog 12 #[.agg #[.int .i64 n, .slice a len cap], .int .i64 s] w fun e w' => Below w.heap.size w w' ∧ ∃ a1 c1, e = .returned (.slice a1 0 c1)
  cycle_ok : ∀ (N s len cap : Nat) (l : List Ar) (a : Option Addr) (w : World), s < N → checkV (N : Int) l = 0 → IsArcs w.heap.size w a len l →
    Calls Try.prog 12 #[.agg #[.int .i64 (N : Int), .slice a len cap], .int .i64 (s : Int)] w fun e w' => Below w.heap.size w w' ∧
      ∃ v ws, e = .returned v ∧ w'.ownsRow w.heap.size 3 1 v ws.length (numsV ws) ∧ (¬ Neg l s → ws = []) ∧
        (Neg l s → ws.length ≤ N ∧ ws ≠ [] ∧ ∃ (i : Nat) (W : Int), joinO l ws (i : Int) 0 = some ((i : Int), W) ∧ W < 0 ∧ Comes l s i)
  way_ok : ∀ (N s len cap i : Nat) (l : List Ar) (a : Option Addr) (w : World) (far : Nat → Option Int) (by_ : Nat → Int) (gf cf gb cb : Nat), s < N → i < N → checkV (N : Int) l = 0 →
    by_ s = -1 → far s ≠ none → (∀ i, far i = none → by_ i = -1) → (∀ i d, far i = some d → ∃ ws e, WayBy l s by_ i ws e) → (∀ i, ¬ i < N → far i = none) → IsArcs w.heap.size w a len l →
    LongRow w 0 (.slice (some ⟨gf, 0, none⟩) N cf) N (valI far) → IntRow w 0 (.slice (some ⟨gb, 0, none⟩) N cb) N by_ →
    Calls Try.prog 19 #[.agg #[.slice (some ⟨gf, 0, none⟩) N cf, .slice (some ⟨gb, 0, none⟩) N cb], .agg #[.int .i64 (N : Int), .slice a len cap], .int .i64 (i : Int)] w fun e w' =>
      ∃ v ws, e = .returned v ∧ w'.ownsRow w.heap.size 3 1 v ws.length (numsV ws) ∧ WayIs l s far by_ i ws ∧ ws.length ≤ 1002 ∧ Below w.heap.size w w'
end Go.Proofs.Ytmmhdjibigopfaa
