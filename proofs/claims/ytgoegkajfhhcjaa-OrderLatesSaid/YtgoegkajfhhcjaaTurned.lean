/- Package graph: Turned. -/
import Derived.Test.YtgoegkajfhhcjaaBoxK
import Derived.OneCell
namespace Go.Proofs.Ytgoegkajfhhcjaa
open Go.RowKit

/-- With each arc the other way round. -/
def turned (l : List Ar) : List Ar := l.map fun x => (x.2.1, x.1, x.2.2)
/-- The cells of a row of len arcs, of which the first k are turned. -/
def turnF (l : List Ar) (k j : Nat) : Value :=
  let x := if j / 3 < k then l.getD (j / 3) (0, 0, 0) else (0, 0, 0)
  if j % 3 = 0 then .int .i64 x.2.1 else if j % 3 = 1 then .int .i64 x.1 else .int .i64 x.2.2
variable {w wr w2 w4 : World} {a : Option Addr} {len cap B B2 g T rs k : Nat} {l : List Ar} {n : Int} {x : Ar}
theorem turnF_old {j : Nat} (h : j < k * 3 ∨ k * 3 + 3 ≤ j) : turnF l (k + 1) j = turnF l k j := by
  have : (j / 3 < k + 1) = (j / 3 < k) := by apply propext; omega
  simp only [turnF, this]
theorem turnF_new (hx : l[k]? = some x) : turnF l (k + 1) (k * 3) = .int .i64 x.2.1 ∧ turnF l (k + 1) (k * 3 + 1) = .int .i64 x.1 ∧ turnF l (k + 1) (k * 3 + 2) = .int .i64 x.2.2 := by
  have e0 : k * 3 / 3 = k := by omega
  have e1 : (k * 3 + 1) / 3 = k := by omega
  have e2 : (k * 3 + 2) / 3 = k := by omega
  have m0 : k * 3 % 3 = 0 := by omega
  have m1 : (k * 3 + 1) % 3 = 1 := by omega
  have m2 : (k * 3 + 2) % 3 = 2 := by omega
  simp [turnF, e0, e1, e2, m0, m1, m2, List.getD, hx]
/-- What Turned has: the receiver's box; its result's; the new row. -/
structure TurnW (w wr : World) (g rs T : Nat) (n : Int) (a : Option Addr) (len cap : Nat) (l : List Ar) (k : Nat) : Prop where
  box : Box w wr g n a len cap
  res : wr.heap[rs]? = some (.cells #[.int .i64 0, .slice none 0 0] 26 (0, 0))
  row : wr.rowIs T 35 (len * 3) (turnF l k)
  lt1 : g < rs
  lt2 : rs < T
theorem TurnW.later (h : TurnW w wr g rs T n a len cap l k) (hb : Below wr.heap.size wr w2) : TurnW w w2 g rs T n a len cap l k :=
  ⟨h.box.later hb, (hb.block rs (by have := h.lt2; have := h.row.lt; omega)).trans h.res, rowIs_below h.row hb, h.lt1, h.lt2⟩
theorem TurnW.set_ (h : TurnW w wr g rs T n a len cap l k) (hx : l[k]? = some x) (_hk : k < len) :
    TurnW w (((wr.setCell ⟨T, k * 3, none⟩ (.int .i64 x.2.1)).setCell ⟨T, k * 3 + 1, none⟩ (.int .i64 x.1)).setCell ⟨T, k * 3 + 2, none⟩ (.int .i64 x.2.2)) g rs T n a len cap l (k + 1) := by
  have hge := h.box.ge
  have h1 := h.lt1
  have h2 := h.lt2
  have hm : Mod (fun b => b = T) wr (((wr.setCell ⟨T, k * 3, none⟩ (.int .i64 x.2.1)).setCell ⟨T, k * 3 + 1, none⟩ (.int .i64 x.1)).setCell ⟨T, k * 3 + 2, none⟩ (.int .i64 x.2.2)) :=
    (((Mod.refl (fun b => b = T) wr).setCell (p := ⟨T, k * 3, none⟩) (.inr rfl) _).setCell (p := ⟨T, k * 3 + 1, none⟩) (.inr rfl) _).setCell (p := ⟨T, k * 3 + 2, none⟩) (.inr rfl) _
  refine ⟨h.box.kept hm (fun k hk => by omega) (by omega), (hm.block rs (by have := h.row.lt; omega) (by omega)).trans h.res, ?_, h1, h2⟩
  refine (((h.row.set (k * 3) _).set (k * 3 + 1) _).set (k * 3 + 2) _).congr (fun j _ => ?_)
  obtain ⟨t0, t1, t2⟩ := turnF_new hx
  by_cases j2 : j = k * 3 + 2
  · subst j2; simp [t2]
  · by_cases j1 : j = k * 3 + 1
    · subst j1; simp [t1]
    · by_cases j0 : j = k * 3
      · subst j0; simp [t0]
      · simp only [j2, j1, j0, if_false]
        rw [turnF_old (by omega)]
theorem TurnW.arcs (h : TurnW w wr g rs T n a len cap l k) (hl : l.length = len) (hk : len ≤ k) : IsArcs wr.heap.size wr (some ⟨T, 0, none⟩) len (turned l) := by
  refine ⟨by simp [turned, hl], .inr ⟨T, 0, rfl, h.row.lt, fun j x hj => ?_⟩⟩
  have hjl : j < len := by have := (List.getElem?_eq_some_iff.1 hj).1; simpa [turned, hl] using this
  have hlj : l[j]? = some (l[j]'(by omega)) := List.getElem?_eq_getElem (by omega)
  have hx : x = ((l[j]'(by omega)).2.1, (l[j]'(by omega)).1, (l[j]'(by omega)).2.2) := by
    rw [turned, List.getElem?_map, hlj] at hj
    simpa using hj.symm
  have e : ∀ m, m < 3 → turnF l k (j * 3 + m) = turnF l (j + 1) (j * 3 + m) := fun m hm => by
    have q1 : (j * 3 + m) / 3 = j := by omega
    simp only [turnF, q1, show j < k by omega, show j < j + 1 by omega]
  obtain ⟨t0, t1, t2⟩ := turnF_new hlj
  have c0 := h.row.cell (i := j * 3) (by omega)
  have c1 := h.row.cell (i := j * 3 + 1) (by omega)
  have c2 := h.row.cell (i := j * 3 + 2) (by omega)
  have e0 := e 0 (by omega)
  rw [Nat.add_zero] at e0
  rw [e0, t0] at c0
  rw [e 1 (by omega), t1] at c1
  rw [e 2 (by omega), t2] at c2
  subst hx
  simp only [Nat.zero_add]
  exact ⟨c0, c1, c2⟩
end Go.Proofs.Ytgoegkajfhhcjaa
