/- For each node the arcs from it, by their numbers. (As in XAdjK, for package order.) -/
import Derived.Test.YtgoegkajfhhcjaaNext
namespace Go.Proofs.Ytgoegkajfhhcjaa
open Go.RowKit

/-- The numbers of the arcs from node i. -/
def outK (l : List Ar) (i : Nat) : List Int := (l.zipIdx.filter (fun p => p.1.1 == (i : Int))).map (fun p => (p.2 : Int))
theorem outK_snoc (l : List Ar) (x : Ar) (i : Nat) : outK (l ++ [x]) i = if x.1 = (i : Int) then outK l i ++ [(l.length : Int)] else outK l i := by
  unfold outK
  rw [List.zipIdx_append, List.filter_append, List.map_append]
  by_cases h : x.1 = (i : Int) <;> simp [h]
theorem outK_take {l : List Ar} {k : Nat} {x : Ar} (h : l[k]? = some x) (i : Nat) : outK (l.take (k + 1)) i = if x.1 = (i : Int) then outK (l.take k) i ++ [(k : Int)] else outK (l.take k) i := by
  have hk : k < l.length := (List.getElem?_eq_some_iff.1 h).1
  have hl : (l.take k).length = k := by rw [List.length_take]; omega
  have h2 := outK_snoc (l.take k) x i
  rw [hl] at h2
  rw [List.take_add_one, h]
  exact h2
theorem outK_le (l : List Ar) (i : Nat) : (outK l i).length ≤ l.length := by
  unfold outK
  rw [List.length_map]
  refine Nat.le_trans (List.length_filter_le _ _) ?_
  simp
theorem mem_outK {l : List Ar} {i : Nat} {v : Int} : v ∈ outK l i ↔ ∃ (k : Nat) (x : Ar), v = (k : Int) ∧ l[k]? = some x ∧ x.1 = (i : Int) := by
  unfold outK
  rw [List.mem_map]
  constructor
  · rintro ⟨⟨x, k⟩, h, rfl⟩
    rw [List.mem_filter] at h
    exact ⟨k, x, rfl, List.mk_mem_zipIdx_iff_getElem?.1 h.1, by simpa using h.2⟩
  · rintro ⟨k, x, rfl, hx, hi⟩
    exact ⟨(x, k), List.mem_filter.2 ⟨List.mk_mem_zipIdx_iff_getElem?.2 hx, by simpa using hi⟩, rfl⟩
end Go.Proofs.Ytgoegkajfhhcjaa
