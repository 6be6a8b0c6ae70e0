/- Two lists, the same up to a place. -/
import Derived.Test.YtmnbpnjakbihdaaRows
import Derived.WalkKit
namespace Go.Proofs.Ytmnbpnjakbihdaa
open Go.RowKit

/-- The first k are the same. -/
def upTo {α : Type} (l1 l2 : List α) (k : Nat) : Prop := ∀ j, j < k → l1[j]? = l2[j]?
theorem upTo_all {α : Type} {l1 l2 : List α} (h : upTo l1 l2 l1.length) (e : l1.length = l2.length) : l1 = l2 := List.ext_getElem? (fun j => by
  by_cases hj : j < l1.length
  · exact h j hj
  · rw [List.getElem?_eq_none (by omega), List.getElem?_eq_none (by omega)])
theorem upTo_next {α : Type} {l1 l2 : List α} {k : Nat} (h : upTo l1 l2 k) (e : l1[k]? = l2[k]?) : upTo l1 l2 (k + 1) := fun j hj => by
  by_cases e2 : j = k
  · subst e2; exact e
  · exact h j (by omega)
theorem ret_boolE {p q : Bool} (h : p = q) : Ending.returned (.bool p) = .returned (.bool q) := by rw [h]
end Go.Proofs.Ytmnbpnjakbihdaa
