/- Package inst: how many nodes there are, which are whose, what all get. -/
import Derived.Test.YtmnbpnjakbihdaaInstT
import Derived.Deep.LoopGhost
import Derived.LoopTactic
namespace Go.Proofs.Ytmnbpnjakbihdaa
open Go.RowKit

variable {w : World} {A : InA} {x : Ins}
/-- What so many customers get, as it wraps. -/
def loadTo (l : List Pi) : Nat → Int
  | 0 => 0
  | k + 1 => wrap64 (loadTo l k + (l.getD k (0, 0, 0, 0)).1)
theorem getD_ofN {α : Type} {l : List α} {k : Nat} {x d : α} (h : l[k]? = some x) : l.getD k d = x := by simp [List.getD, h]
theorem nodes_any (A : InA) (x : Ins) (w : World) (h : x.sats.length + x.cus.length ≤ 1000) :
    Calls Try.prog 44 #[.agg (insC A x)] w fun e w' => e = .returned (.int .i64 ((1 + x.sats.length + x.cus.length : Nat) : Int)) ∧ Below w.heap.size w w' := by
  have HB := Lib.hid ((Below.refl w.heap.size w).alloc (Nat.le_refl _) (.cells (insC A x) 37))
  unfold insC at *
  go_enter Try.func44, Try.ntmps44
  go_wp2_with fail
  go_ret
  exact ⟨by simp, HB.out⟩
theorem nodesN (A : InA) (x : Ins) (N : Nat) (hN : x.nodes = N) (w : World) (h : x.sats.length + x.cus.length ≤ 1000) :
    Calls Try.prog 44 #[.agg (insC A x)] w fun e w' => e = .returned (.int .i64 (N : Int)) ∧ Below w.heap.size w w' := by
  subst hN
  exact nodes_any A x w h
theorem nodesI (A : InA) (x : Ins) (w : World) (h : x.sats.length + x.cus.length ≤ 1000) :
    Calls Try.prog 44 #[.agg (insC A x)] w fun e w' => e = .returned (.int .i64 (1 + (x.sats.length : Int) + (x.cus.length : Int))) ∧ Below w.heap.size w w' := by
  refine (nodes_any A x w h).mono ?_
  rintro e w' ⟨rfl, hb⟩
  exact ⟨by rw [show ((1 + x.sats.length + x.cus.length : Nat) : Int) = 1 + (x.sats.length : Int) + (x.cus.length : Int) by omega], hb⟩
theorem customer_any (A : InA) (x : Ins) (s : Int) (w : World) (h : x.sats.length ≤ 1000) :
    Calls Try.prog 46 #[.agg (insC A x), .int .i64 s] w fun e w' => e = .returned (.int .i64 (wrap64 (1 + (x.sats.length : Int) + s))) ∧ Below w.heap.size w w' := by
  have HB := Lib.hid ((Below.refl w.heap.size w).alloc (Nat.le_refl _) (.cells (insC A x) 37))
  unfold insC at *
  go_enter Try.func46, Try.ntmps46
  go_wp2_with fail
  go_ret
  exact ⟨rfl, HB.out⟩
end Go.Proofs.Ytmnbpnjakbihdaa
