/- What the calls of package order are to answer: for the laws' walks, whatever their text is. -/
import Derived.Test.YtgoegkajfhhcjaaOrd
import Derived.Test.YtgoegkajfhhcjaaLongs
namespace Go.Proofs.Ytgoegkajfhhcjaa
open Go.RowKit

/-- Nodes, as numbers. -/
def nodesV (o : List Nat) : List Int := o.map (fun i : Nat => (i : Int))
theorem nodesV_length (o : List Nat) : (nodesV o).length = o.length := by simp [nodesV]
/-- The error of Late; 0 if there is none. -/
noncomputable def lateErr (n : Int) (l : List Ar) (xs : List Int) : Int := open Classical in
  if (xs.length : Int) ≠ n then 4 else if checkV n l ≠ 0 then checkV n l else if ∃ x ∈ xs, x < -1125899906842624 ∨ 1125899906842624 < x then 2 else if ∃ out, Stuck l n.toNat out then 7 else 0
/-- What the calls of package order are to answer. -/
structure OrderSpec : Prop where
  sort_ok : ∀ (N len cap : Nat) (l : List Ar) (a : Option Addr) (w : World), checkV (N : Int) l = 0 → IsArcs w.heap.size w a len l →
    Calls Try.prog 10 #[.agg #[.int .i64 (N : Int), .slice a len cap]] w fun e w' => Below w.heap.size w w' ∧
      ((∃ v out, e = .returned (.tuple #[v, .bool true]) ∧ Whole l N out ∧ w'.ownsRow w.heap.size 3 1 v (nodesV out).length (numsV (nodesV out))) ∨
       ∃ a1 c1 out, e = .returned (.tuple #[.slice a1 0 c1, .bool false]) ∧ Stuck l N out)
  sort_bad : ∀ (n : Int) (len cap : Nat) (l : List Ar) (a : Option Addr) (w : World), checkV n l ≠ 0 → IsArcs w.heap.size w a len l →
    Calls Try.prog 10 #[.agg #[.int .i64 n, .slice a len cap]] w fun e w' => Below w.heap.size w w' ∧ ∃ a1 c1, e = .returned (.tuple #[.slice a1 0 c1, .bool false])
  cycle_ok : ∀ (N len cap : Nat) (l : List Ar) (a : Option Addr) (w : World), checkV (N : Int) l = 0 → IsArcs w.heap.size w a len l →
    Calls Try.prog 13 #[.agg #[.int .i64 (N : Int), .slice a len cap]] w fun e w' => Below w.heap.size w w' ∧
      ∃ a1 c1 ws, e = .returned (.slice a1 ws.length c1) ∧ IsInts w'.heap.size w' a1 ws.length ws ∧ (∀ out, Whole l N out → ws = []) ∧
        (∀ out, Stuck l N out → ws.length ≤ 1002 ∧ ws ≠ [] ∧ ∃ (i : Nat) (W : Int), joinO l ws (i : Int) 0 = some ((i : Int), W))
  cycle_bad : ∀ (n : Int) (len cap : Nat) (l : List Ar) (a : Option Addr) (w : World), checkV n l ≠ 0 → IsArcs w.heap.size w a len l →
    Calls Try.prog 13 #[.agg #[.int .i64 n, .slice a len cap]] w fun e w' => Below w.heap.size w w' ∧ ∃ a1 c1, e = .returned (.slice a1 0 c1)
  late_bad : ∀ (n : Int) (len cap : Nat) (l : List Ar) (a : Option Addr) (m c : Nat) (xs : List Int) (b : Option Addr) (w : World), lateErr n l xs ≠ 0 → IsArcs w.heap.size w a len l → IsInts w.heap.size w b m xs → m ≤ 9223372036854775807 →
    Calls Try.prog 16 #[.agg #[.int .i64 n, .slice a len cap], .slice b m c] w fun e w' => Below w.heap.size w w' ∧ ∃ a1 c1, e = .returned (.tuple #[.slice a1 0 c1, .int .i64 (lateErr n l xs)])
  late_ok : ∀ (N len cap : Nat) (l : List Ar) (a : Option Addr) (c : Nat) (xs : List Int) (b : Option Addr) (w : World), lateErr (N : Int) l xs = 0 → IsArcs w.heap.size w a len l → IsInts w.heap.size w b N xs →
    Calls Try.prog 16 #[.agg #[.int .i64 (N : Int), .slice a len cap], .slice b N c] w fun e w' => Below w.heap.size w w' ∧
      ∃ v got, e = .returned (.tuple #[v, .int .i64 0]) ∧ LongRow w' w.heap.size v N got ∧ LateIs l N (fun i => xs.getD i 0) got
end Go.Proofs.Ytgoegkajfhhcjaa
