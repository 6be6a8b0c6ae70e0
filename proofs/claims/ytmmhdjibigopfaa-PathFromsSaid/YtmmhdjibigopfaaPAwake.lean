/- The fixed fact of chapter 7: its graphs. -/
import Derived.Test.YtmmhdjibigopfaaPathCycles
import Derived.Test.YtmmhdjibigopfaaEqInts
namespace Go.Proofs.Ytmmhdjibigopfaa
open Go.RowKit

def arcs3 : List Ar := [(0, 1, 2), (1, 2, -1), (0, 2, 3)]
def arcs4 : List Ar := [(0, 1, 2), (1, 2, -1), (0, 2, 3), (2, 0, -2)]
def far3 : Nat → Option Int := fun i => if i = 0 then some 0 else if i = 1 then some 2 else if i = 2 then some 1 else none
theorem dist3 : Dist arcs3 0 far3 := by
  refine Dist.of_fixed (fun i d h => ?_) ⟨0, rfl, Int.le_refl _⟩ (fun x hx i j h1 h2 d hd => ?_)
  · by_cases e0 : i = 0
    · subst e0
      have : d = 0 := by simpa [far3] using h.symm
      subst this
      exact ⟨0, .nil⟩
    · by_cases e1 : i = 1
      · subst e1
        have : d = 2 := by simpa [far3] using h.symm
        subst this
        exact ⟨1, Walk.one (x := (0, 1, 2)) (by simp [arcs3]) rfl rfl⟩
      · by_cases e2 : i = 2
        · subst e2
          have : d = 1 := by simpa [far3] using h.symm
          subst this
          exact ⟨2, ((Walk.one (x := (0, 1, 2)) (i := 0) (j := 1) (by simp [arcs3]) rfl rfl).snoc (x := (1, 2, -1)) (by simp [arcs3]) rfl rfl).turn rfl rfl⟩
        · simp [far3, e0, e1, e2] at h
  · simp [arcs3] at hx
    rcases hx with rfl | rfl | rfl <;> simp at h1 h2
    · have a1 : i = 0 := by omega
      have a2 : j = 1 := by omega
      subst a1 a2
      have : d = 0 := by simpa [far3] using hd.symm
      subst this
      exact ⟨2, rfl, by simp⟩
    · have a1 : i = 1 := by omega
      have a2 : j = 2 := by omega
      subst a1 a2
      have : d = 2 := by simpa [far3] using hd.symm
      subst this
      exact ⟨1, rfl, by simp⟩
    · have a1 : i = 0 := by omega
      have a2 : j = 2 := by omega
      subst a1 a2
      have : d = 0 := by simpa [far3] using hd.symm
      subst this
      exact ⟨1, rfl, by simp⟩
theorem neg4 : Neg arcs4 0 := by
  have w1 : Walk arcs4 0 1 1 2 := Walk.one (x := (0, 1, 2)) (by simp [arcs4]) rfl rfl
  have w2 : Walk arcs4 0 2 2 1 := (w1.snoc (x := (1, 2, -1)) (j := 2) (by simp [arcs4]) rfl rfl).turn rfl rfl
  have w3 : Walk arcs4 0 0 3 (-1) := (w2.snoc (x := (2, 0, -2)) (j := 0) (by simp [arcs4]) rfl rfl).turn rfl rfl
  exact Neg.intro .nil w3 (by omega)
theorem check3 : checkV ((3 : Nat) : Int) arcs3 = 0 := by decide
theorem check4 : checkV ((3 : Nat) : Int) arcs4 = 0 := by decide
theorem arcs34 {k : Nat} {x : Ar} (h : arcs3[k]? = some x) : arcs4[k]? = some x := by
  match k, h with
  | 0, h => exact h
  | 1, h => exact h
  | 2, h => exact h
  | k + 3, h => simp [arcs3] at h
theorem way34 {s i : Nat} {by_ : Nat → Int} {ws : List Int} {e : Int} (h : WayBy arcs3 s by_ i ws e) : WayBy arcs4 s by_ i ws e := by
  induction h with
  | nil => exact .nil
  | snoc _ hb hx h1 h2 hi ih => exact ih.snoc hb (arcs34 hx) h1 h2 hi
/-- The first graph's tree. -/
theorem tree3 {far : Nat → Option Int} {by_ : Nat → Int} (h : TreeOf arcs3 0 far by_) : far = far3 ∧ by_ 1 = 0 ∧ by_ 2 = 1 ∧ WayBy arcs4 0 by_ 2 [0, 1] 1 := by
  have hf : far = far3 := funext fun i => h.dist.unique dist3 i
  subst hf
  obtain ⟨k, x, f, p, b1, b2, b3, b4, b5, b6⟩ := h.told.even h.fixed (i := 1) (by omega) (d := 2) rfl
  have e1 : by_ 1 = 0 := by
    match k, b2 with
    | 0, _ => exact b1
    | 1, b2 => simp [arcs3] at b2; subst b2; simp at b3
    | 2, b2 => simp [arcs3] at b2; subst b2; simp at b3
    | k + 3, b2 => simp [arcs3] at b2
  obtain ⟨k, x, f, p, b1, b2, b3, b4, b5, b6⟩ := h.told.even h.fixed (i := 2) (by omega) (d := 1) rfl
  have e2 : by_ 2 = 1 := by
    match k, b2 with
    | 0, b2 => simp [arcs3] at b2; subst b2; simp at b3
    | 1, _ => exact b1
    | 2, b2 =>
      simp [arcs3] at b2
      subst b2
      simp at b4 b6
      have : f = 0 := by omega
      subst this
      have : p = 0 := by simpa [far3] using b5.symm
      omega
    | k + 3, b2 => simp [arcs3] at b2
  refine ⟨rfl, e1, e2, ?_⟩
  have w1 : WayBy arcs4 0 by_ 1 ([] ++ [((0 : Nat) : Int)]) (0 + 2) := WayBy.nil.snoc (k := 0) (x := (0, 1, 2)) e1 rfl rfl rfl (by omega)
  exact w1.snoc (k := 1) (x := (1, 2, -1)) e2 rfl rfl rfl (by omega)
theorem arcNo_lt {l : List Ar} {k : Int} {x : Ar} (h : arcNo l k = some x) : ∃ j : Nat, k = (j : Int) ∧ l[j]? = some x ∧ j < l.length := by
  unfold arcNo at h
  by_cases h0 : 0 ≤ k
  · rw [if_pos h0] at h
    exact ⟨k.toNat, by omega, h, (List.getElem?_eq_some_iff.1 h).1⟩
  · rw [if_neg h0] at h; cases h
theorem join_cons {l : List Ar} {k a s : Int} {r : List Int} {p : Int × Int} (h : joinO l (k :: r) a s = some p) : ∃ (j : Nat) (x : Ar), k = (j : Int) ∧ l[j]? = some x ∧ j < l.length ∧ x.1 = a ∧ joinO l r x.2.1 (wrap64 (s + x.2.2)) = some p := by
  rw [joinO] at h
  cases hk : arcNo l k with
  | none => rw [hk] at h; cases h
  | some x =>
    rw [hk] at h
    simp only [] at h
    obtain ⟨j, e1, e2, e3⟩ := arcNo_lt hk
    by_cases e : x.1 = a
    · rw [if_pos e] at h
      exact ⟨j, x, e1, e2, e3, e, h⟩
    · rw [if_neg e] at h; cases h
theorem arcs4_get {k : Nat} {x : Ar} (h : arcs4[k]? = some x) : x = (0, 1, 2) ∨ x = (1, 2, -1) ∨ x = (0, 2, 3) ∨ x = (2, 0, -2) := by
  match k, h with
  | 0, h => simp [arcs4] at h; simp [← h]
  | 1, h => simp [arcs4] at h; simp [← h]
  | 2, h => simp [arcs4] at h; simp [← h]
  | 3, h => simp [arcs4] at h; simp [← h]
  | k + 4, h => simp [arcs4] at h
/-- A cycle below nothing of the second graph, of at most three arcs, has three. -/
theorem cycle4 {k : Int} {r : List Int} {i W : Int} (h : joinO arcs4 (k :: r) i 0 = some (i, W)) (hW : W < 0) (hr : r.length + 1 ≤ 3) : r.length + 1 = 3 := by
  obtain ⟨j, x, e1, e2, _, e4, e5⟩ := join_cons h
  match r, hr with
  | [], _ =>
    simp only [joinO, Option.some.injEq, Prod.mk.injEq] at e5
    obtain ⟨g1, _⟩ := e5
    rcases arcs4_get e2 with rfl | rfl | rfl | rfl <;> simp at e4 g1 <;> omega
  | [k2], _ =>
    obtain ⟨j2, y, f1, f2, _, f4, f5⟩ := join_cons e5
    simp only [joinO, Option.some.injEq, Prod.mk.injEq] at f5
    obtain ⟨g1, g2⟩ := f5
    rcases arcs4_get e2 with rfl | rfl | rfl | rfl <;> rcases arcs4_get f2 with rfl | rfl | rfl | rfl <;> simp [wrap64] at e4 f4 g1 g2 <;> omega
  | [_, _], _ => rfl
  | _ :: _ :: _ :: _, hr => simp at hr
theorem arcs3_at (w : World) (T : TypeId) (o : Obj) : IsArcs (w.heap.size + 2) ((w.alloc (.cells #[.int .i64 0, .int .i64 1, .int .i64 2, .int .i64 1, .int .i64 2, .int .i64 (-1), .int .i64 0, .int .i64 2, .int .i64 3] T)).alloc o) (some ⟨w.heap.size, 0, none⟩) 3 arcs3 := by
  refine ⟨rfl, .inr ⟨w.heap.size, 0, rfl, by omega, fun k x hk => ?_⟩⟩
  match k, hk with
  | 0, hk => simp [arcs3] at hk; subst hk; simp
  | 1, hk => simp [arcs3] at hk; subst hk; simp
  | 2, hk => simp [arcs3] at hk; subst hk; simp
  | k + 3, hk => simp [arcs3] at hk
end Go.Proofs.Ytmmhdjibigopfaa
