/- A graph that came in by value: its number of nodes, its arcs. -/
import Derived.Test.YtgoegkajfhhcjaaGraph
import Derived.ProofKit
import Derived.OpenShut
import Derived.ChangeOld
import Derived.DataReads
import Derived.Deep.Slices
import Derived.Lib.SmallJoins
namespace Go.Proofs.Ytgoegkajfhhcjaa
open Go.ChangeShapes Go.WideShapes Go.ChangeAt Go.RowKit

theorem cellsArc : Try.prog.cellsOf 35 = 3 := by kernel_rfl
theorem cellsI64 : Try.prog.cellsOf 2 = 1 := by kernel_rfl
theorem cellsInt : Try.prog.cellsOf 3 = 1 := by kernel_rfl
theorem cellsGraph : Try.prog.cellsOf 26 = 2 := by kernel_rfl

section
variable {H : Type} {enc : TypeId × Value → H} {w : World} {base : Nat} {spare : Nat → Bool} {held : Bool}
/-- One arc, of its three cells. -/
theorem arc_of {fuel : Nat} {cs : List Value} {x : DataW H × List MemPlace} (h : DataW.trod enc Try.prog w base spare held fuel 35 cs = some x) : ∃ c : Ar, cs = [.int .i64 c.1, .int .i64 c.2.1, .int .i64 c.2.2] := by
  obtain ⟨xs, n, _, _, hlen, hxl, hf⟩ := DataW.trod_struct Try.underlying35 h
  rw [cellsArc] at hlen
  match cs, hlen with
  | [v0, v1, v2], _ =>
    match xs, hxl with
    | [y0, y1, y2], _ =>
      have g0 := hf 0 _ rfl
      have g1 := hf 1 _ rfl
      have g2 := hf 2 _ rfl
      simp [cellsInt] at g0
      simp [cellsInt] at g1
      simp [cellsI64] at g2
      obtain ⟨t, ht, _⟩ := DataW.trod_int Try.underlying3 g0
      obtain ⟨k, hk, _⟩ := DataW.trod_int Try.underlying3 g1
      obtain ⟨i, hi, _⟩ := DataW.trod_int Try.underlying2 g2
      simp only [List.cons.injEq, and_true] at ht hk hi
      subst ht hk hi
      exact ⟨(t, k, i), rfl⟩
/-- The whole slice. -/
theorem arcs_of {fuel : Nat} {a : Option Addr} {len cap : Nat} {x : DataW H × List MemPlace} (h : DataW.trod enc Try.prog w base spare held fuel 24 [.slice a len cap] = some x) :
    len ≤ maxLen ∧ ∃ l, IsArcs w.heap.size w a len l := by
  rcases Go.Deep.open_slice Try.underlying24 h with ⟨hcs, _⟩ | ⟨p, len', cap', m, n, D, Pl, hcs, _, hl, hm, hmm, _, hi⟩
  · simp only [List.cons.injEq, Value.slice.injEq, and_true] at hcs
    obtain ⟨rfl, rfl, rfl⟩ := hcs
    exact ⟨by unfold maxLen; omega, [], rfl, .inl rfl⟩
  · simp only [List.cons.injEq, Value.slice.injEq, and_true] at hcs
    obtain ⟨rfl, rfl, rfl⟩ := hcs
    refine ⟨by omega, ?_⟩
    have hlm : len ≤ m := by rw [hmm]; split <;> omega
    have each : ∀ i, i < len → ∃ c : Ar, w.cell? (p.add (i * 3)) = some (.int .i64 c.1) ∧ w.cell? (p.add (i * 3 + 1)) = some (.int .i64 c.2.1) ∧ w.cell? (p.add (i * 3 + 2)) = some (.int .i64 c.2.2) := fun i hil => by
      obtain ⟨cs', h1, h2⟩ := hi i (by omega)
      obtain ⟨c, rfl⟩ := arc_of h2
      rw [cellsArc] at h1
      obtain ⟨_, _, hat⟩ := World.cells?_some h1
      have a0 := hat 0 (by omega)
      have a1 := hat 1 (by omega)
      have a2 := hat 2 (by omega)
      rw [Go.Deep.add_add] at a0 a1 a2
      exact ⟨c, by simpa using a0, by simpa using a1, by simpa using a2⟩
    obtain ⟨f, hf⟩ := Go.Deep.choose_lt each
    refine ⟨(List.range len).map f, by simp, ?_⟩
    by_cases h0 : len = 0
    · exact .inl h0
    · obtain ⟨b, off, spot⟩ := p
      have hspot : spot = none := by simpa [Addr.add] using World.cell?_spot (hf 0 (by omega)).1
      subst hspot
      have hrow : ArRow w b off ((List.range len).map f) := fun i c hc => by
        have hil : i < len := by have := (List.getElem?_eq_some_iff.1 hc).1; simpa using this
        simp only [List.getElem?_map, List.getElem?_range hil, Option.map_some, Option.some.injEq] at hc
        subst hc
        have := hf i hil
        simp only [Addr.add_lit] at this
        exact this
      exact .inr ⟨b, off, rfl, World.block_lt_of_cell? w _ (hf 0 (by omega)).1, hrow⟩
/-- The whole value. -/
theorem graph_of {r : Reach} {b0 : Nat} {v : Value} {d : DataW H} {p : List MemPlace} (hv : Value.okWide Try.prog w r b0 26 v) (h : DataW.Trod enc Try.prog w base spare held 26 v d p) :
    ∃ n a len cap l, v = .agg #[.int .i64 n, .slice a len cap] ∧ len ≤ maxLen ∧ IsArcs w.heap.size w a len l := by
  obtain ⟨c0, c1, y0, y1, m, rfl, _, _, hy0, hy1⟩ := Joins.open_agg2 Try.underlying26 (by kernel_rfl) cellsGraph hv h
  obtain ⟨n, e0, _⟩ := DataW.trod_int Try.underlying3 hy0
  simp only [List.cons.injEq, and_true] at e0
  subst e0
  obtain ⟨a, len, cap, e1⟩ := Joins.slice_form Try.underlying24 hy1
  simp only [List.cons.injEq, and_true] at e1
  subst e1
  obtain ⟨h1, l, h2⟩ := arcs_of hy1
  exact ⟨n, a, len, cap, l, rfl, h1, h2⟩
end
end Go.Proofs.Ytgoegkajfhhcjaa
