/- What is left of a lane. -/
import Derived.Test.YtifhapmblofmkaaWk
import Derived.BigQuiet
import Derived.Deep.QuietTactic
import Derived.Deep.RegionWith
namespace Go.Proofs.Ytifhapmblofmkaa
open Go.RowKit

variable {w wr w2 w4 : World} {E : Env} {fl st : Nat → Int} {hi nx : Nat → Nat} {mn : Nat → Int} {fv : Nat → Value} {Q : Nat → List Nat} {top : Int}
/-- A lane, as a value. -/
def laneV (a : La) : Array Value := #[.int .i64 (a.1 : Int), .int .i64 (a.2.1 : Int), .bool a.2.2]
theorem heap_new (w : World) (o : Obj) : (w.alloc o).heap[w.heap.size]? = some o := heap_alloc_new _ _
set_option maxHeartbeats 2000000 in
set_option maxRecDepth 100000 in
theorem left_any (H : Wk E fl st hi nx mn fv Q top wr) (k v : Nat) (b : Bool) (hk : k < E.len) (hcap : ∀ (k : Nat) (x : Pi), E.l[k]? = some x → 0 ≤ fl k ∧ fl k ≤ x.2.2.1 ∧ x.2.2.1 ≤ 1099511627776) :
    Calls Try.prog 28 #[.pointer (some ⟨E.p, 0, none⟩), .agg #[.int .i64 (k : Int), .int .i64 (v : Int), .bool b]] wr fun e w' => e = .returned (.int .i64 (lft E.l fl (k, v, b))) ∧ Below wr.heap.size wr w' := by
  have HB := Lib.hid ((Below.refl wr.heap.size wr).alloc (Nat.le_refl _) (.cells #[.int .i64 (k : Int), .int .i64 (v : Int), .bool b] 63))
  have H1 := H.later HB.out
  obtain ⟨_, c1, _, _, _, c5, _⟩ := H1.cellW
  have r := H1.flow.cell hk
  obtain ⟨pb, off, x, ha, _, hx, e0, e1, e2, e3⟩ := H1.pipes.at_ hk
  have hc := hcap k x hx
  rw [ha] at c1
  have hs : IntKind.i64.wrap (x.2.2.1 - fl k) = x.2.2.1 - fl k := by rw [IntKind.wrap_i64]; omega
  have hlf : lft E.l fl (k, v, b) = if b = true then fl k else x.2.2.1 - fl k := by simp [lft, room_of hx]
  rw [hlf]
  clear hlf hcap H1 H hx ha
  cases b with
  | true =>
    go_enter Try.func28, Try.ntmps28
    go_wp2_with fail
    go_quiet (fail)
    go_wp2_with fail
    go_ret
    exact ⟨rfl, below_drewN HB.out _⟩
  | false =>
    go_enter Try.func28, Try.ntmps28
    go_wp2_with fail
    go_quiet (fail)
    go_wp2_with fail
    go_ret
    exact ⟨rfl, below_drewN HB.out _⟩
end Go.Proofs.Ytifhapmblofmkaa
