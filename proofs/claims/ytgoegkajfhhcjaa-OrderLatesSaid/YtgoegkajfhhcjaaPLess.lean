/- The calls on a pile's items: Len, Less. -/
import Derived.Test.YtgoegkajfhhcjaaHeap
import Derived.Test.YtgoegkajfhhcjaaRows
import Derived.Shelf.GgSortFunc.RowK
import Derived.Deep.QuietTactic
import Derived.BigQuiet
import Derived.WalkKit
import Derived.Lib.Hide
namespace Go.Proofs.Ytgoegkajfhhcjaa
open Go.RowKit
open Go.Sort (swp HoldsK putRowK)

/-- A thing's two cells. -/
def encIt (x : It) : List Value := [.int .i64 x.1, .int .i64 x.2]

theorem cell_key {w : World} {g : Nat} {d : Array It} (H : HoldsK encIt 2 w g 0 d) {i : Nat} (hi : i < d.size) : w.cell? ⟨g, i * 2, none⟩ = some (.int .i64 d[i]!.1) := by
  have := (H.cell hi (c := 0) (by omega)).1
  simpa [encIt] using this
theorem cell_id {w : World} {g : Nat} {d : Array It} (H : HoldsK encIt 2 w g 0 d) {i : Nat} (hi : i < d.size) : w.cell? ⟨g, i * 2 + 1, none⟩ = some (.int .i64 d[i]!.2) := by
  have := (H.cell hi (c := 1) (by omega)).1
  simpa [encIt] using this

theorem drew_two (w : World) (a b : Nat) : (w.drewN a).drewN b = w.drewN (a + b) := by
  simp [World.drewN, Nat.add_assoc]

theorem ret_less {p q : Bool} (h : p = q) : Ending.returned (.bool p) = .returned (.bool q) := by rw [h]
theorem less_key {x y : It} (h : (x.1 != y.1) = true) : decide (x.1 < y.1) = lessB x y := by
  have h' : x.1 ≠ y.1 := by simpa using h
  unfold lessB; congr 1; apply propext; omega
theorem less_id {x y : It} (h : (x.1 != y.1) = false) : decide (x.2 < y.2) = lessB x y := by
  have h' : x.1 = y.1 := by simpa using h
  unfold lessB; congr 1; apply propext; omega

theorem len_any (a : Option Addr) (n cap : Nat) (w : World) : Calls Try.prog 60 #[.slice a n cap] w fun e w' => e = .returned (.int .i64 n) ∧ w = w' := by
  go_enter Try.func60, Try.ntmps60
  go_wp2_with fail
  go_ret
  exact ⟨rfl, rfl⟩

set_option maxHeartbeats 1000000 in
set_option maxRecDepth 100000 in
theorem less_any (g n cap i j : Nat) (d : Array It) (w : World) (hn : n = d.size) (hi : i < n) (hj : j < n) (H : HoldsK encIt 2 w g 0 d) :
    Calls Try.prog 61 #[.slice (some ⟨g, 0, none⟩) n cap, .int .i64 i, .int .i64 j] w fun e w' => e = .returned (.bool (lessB d[i]! d[j]!)) ∧ ∃ q, w' = w.drewN q := by
  have c1 := cell_key H (i := i) (by omega)
  have c2 := cell_id H (i := i) (by omega)
  have c3 := cell_key H (i := j) (by omega)
  have c4 := cell_id H (i := j) (by omega)
  have HN := Lib.hid hn; clear hn H
  generalize d[i]! = x at c1 c2 ⊢
  generalize d[j]! = y at c3 c4 ⊢
  have i1 : (i : Int) < (n : Int) := by omega
  have j1 : (j : Int) < (n : Int) := by omega
  go_enter Try.func61, Try.ntmps61
  go_wp2_with fail
  go_quiet (fail)
  go_wp2_with fail
  all_goals
    have h0 : (x.1 != y.1) = true ∨ (x.1 != y.1) = false := by cases (x.1 != y.1) <;> simp
    obtain ⟨w2, hw2⟩ : ∃ w2, w2 = w.drewN nq := ⟨_, rfl⟩
    have HW := Lib.hid hw2
    rw [← hw2]
    have d1 : w2.cell? ⟨g, i * 2, none⟩ = some (.int .i64 x.1) := by rw [hw2]; exact c1
    have d2 : w2.cell? ⟨g, i * 2 + 1, none⟩ = some (.int .i64 x.2) := by rw [hw2]; exact c2
    have d3 : w2.cell? ⟨g, j * 2, none⟩ = some (.int .i64 y.1) := by rw [hw2]; exact c3
    have d4 : w2.cell? ⟨g, j * 2 + 1, none⟩ = some (.int .i64 y.2) := by rw [hw2]; exact c4
    clear hw2 h0 c1 c2 c3 c4
    go_quiet (fail)
    go_wp2_with fail
    go_ret
    refine ⟨?_, _, by rw [HW.out]; exact drew_two w _ _⟩
    first
      | exact ret_less (less_key (by assumption))
      | exact ret_less (less_id (by assumption))
end Go.Proofs.Ytgoegkajfhhcjaa
