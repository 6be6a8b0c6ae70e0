/-
  No cell of these rows narrows 'for every input' (looked for: loops, veiled, ifaces, maps, wideKeys, modest, calm, conditions, laid).
  DERIVED. THE GIVEN ROWS OF THIS SEAT. 4 by the template 'for every input the law returns true; each argument reads behind the call as it read before'; 0 by the template 'total and deterministic' (their statements: YtmmhdjibigopfaaTotals.lean).
  GIVEN WITH THE SEED: the statements are not yours to turn. If you find one false, say at which input.
  Laid BY PROGRAM, IN A SANDBOX (cutbox-rows.mjs): the forced cells as the released guide's own fill.sh prints them over the translation 60cd48fb5c579690… (all of the seat's roots in one cut). By AI agents, Wed Nov 11 2026. No macro, syntax, notation, axiom, sorry.
-/
import Derived.Test.YtmmhdjibigopfaaChecked
import GoSem.Claim
import GoSem.ClaimJoined
import GoSem.ClaimMapViews
import Derived.JoinedTies
import Derived.KernelRfl
namespace Go.Proofs.Ytmmhdjibigopfaa
/- THE CELL 'sum', in the pinned program and in every row, IS THE sha256 OF THE DUMP (.gsa) THAT YtmmhdjibigopfaaProg.lean LOADS. Nothing in Lean hashes anything: it is a label: what it is worth is what the hold of that sum in a sandbox is worth. -/
noncomputable def Try.pinned : Pinned := { name := "ytmmhdjibigopfaa", sum := "60cd48fb5c579690467aa0aa799843ccafb303acd0030adc9da1726795cf4439", checked := Try.checked }
namespace Rows
def none {H : Type} : Left H := { results := [], args := [] }

/-- 'wharfagelaw07.PathFroms': WHATEVER THE INPUT: true; the input reads as it did. -/
def pathFromsSpec : ChangeSpec := { name := "pathFroms", fn := fun _ => fun
  | [d1, d2, d3] => { results := [.lit (.bool true)], args := [d1, d2, d3] }
  | _ => none }
def pathFromsRow : OpenClaim := { program := "ytmmhdjibigopfaa", sum := "60cd48fb5c579690467aa0aa799843ccafb303acd0030adc9da1726795cf4439", func := "wharfage/wharfagelaw07.PathFroms", spec := "pathFroms", unfollowed := true, recurses := true, apart := false }
def PathFromsSaid : Prop := pathFromsRow.holds Try.pinned (OpenSpec.ofChange pathFromsSpec)

/-- ITS FALSE NEIGHBOUR: 'it returns false'. Refute it at one input. -/
def pathFromsWrong : ChangeSpec := { name := "pathFroms", fn := fun _ => fun
  | [d1, d2, d3] => { results := [.lit (.bool false)], args := [d1, d2, d3] }
  | _ => none }
def PathFromsWrongFalsely : Prop := pathFromsRow.holds Try.pinned (OpenSpec.ofChange pathFromsWrong)

/-- 'wharfagelaw07.PathCycles': WHATEVER THE INPUT: true; the input reads as it did. -/
def pathCyclesSpec : ChangeSpec := { name := "pathCycles", fn := fun _ => fun
  | [d1, d2, d3] => { results := [.lit (.bool true)], args := [d1, d2, d3] }
  | _ => none }
def pathCyclesRow : OpenClaim := { program := "ytmmhdjibigopfaa", sum := "60cd48fb5c579690467aa0aa799843ccafb303acd0030adc9da1726795cf4439", func := "wharfage/wharfagelaw07.PathCycles", spec := "pathCycles", unfollowed := true, recurses := true, apart := false }
def PathCyclesSaid : Prop := pathCyclesRow.holds Try.pinned (OpenSpec.ofChange pathCyclesSpec)

/-- ITS FALSE NEIGHBOUR: 'it returns false'. Refute it at one input. -/
def pathCyclesWrong : ChangeSpec := { name := "pathCycles", fn := fun _ => fun
  | [d1, d2, d3] => { results := [.lit (.bool false)], args := [d1, d2, d3] }
  | _ => none }
def PathCyclesWrongFalsely : Prop := pathCyclesRow.holds Try.pinned (OpenSpec.ofChange pathCyclesWrong)

/-- 'wharfagelaw07.PathErrors': WHATEVER THE INPUT: true; the input reads as it did. -/
def pathErrorsSpec : ChangeSpec := { name := "pathErrors", fn := fun _ => fun
  | [d1, d2] => { results := [.lit (.bool true)], args := [d1, d2] }
  | _ => none }
def pathErrorsRow : OpenClaim := { program := "ytmmhdjibigopfaa", sum := "60cd48fb5c579690467aa0aa799843ccafb303acd0030adc9da1726795cf4439", func := "wharfage/wharfagelaw07.PathErrors", spec := "pathErrors", unfollowed := true, recurses := true, apart := false }
def PathErrorsSaid : Prop := pathErrorsRow.holds Try.pinned (OpenSpec.ofChange pathErrorsSpec)

/-- ITS FALSE NEIGHBOUR: 'it returns false'. Refute it at one input. -/
def pathErrorsWrong : ChangeSpec := { name := "pathErrors", fn := fun _ => fun
  | [d1, d2] => { results := [.lit (.bool false)], args := [d1, d2] }
  | _ => none }
def PathErrorsWrongFalsely : Prop := pathErrorsRow.holds Try.pinned (OpenSpec.ofChange pathErrorsWrong)

/-- 'wharfagelaw07.PathShorter': WHATEVER THE INPUT: true; the input reads as it did. -/
def pathShorterSpec : ChangeSpec := { name := "pathShorter", fn := fun _ => fun
  | [d1, d2, d3, d4] => { results := [.lit (.bool true)], args := [d1, d2, d3, d4] }
  | _ => none }
def pathShorterRow : OpenClaim := { program := "ytmmhdjibigopfaa", sum := "60cd48fb5c579690467aa0aa799843ccafb303acd0030adc9da1726795cf4439", func := "wharfage/wharfagelaw07.PathShorter", spec := "pathShorter", unfollowed := true, recurses := true, apart := false }
def PathShorterSaid : Prop := pathShorterRow.holds Try.pinned (OpenSpec.ofChange pathShorterSpec)

/-- ITS FALSE NEIGHBOUR: 'it returns false'. Refute it at one input. -/
def pathShorterWrong : ChangeSpec := { name := "pathShorter", fn := fun _ => fun
  | [d1, d2, d3, d4] => { results := [.lit (.bool false)], args := [d1, d2, d3, d4] }
  | _ => none }
def PathShorterWrongFalsely : Prop := pathShorterRow.holds Try.pinned (OpenSpec.ofChange pathShorterWrong)

/- THE SECOND FORM. 'bulk': how many values and letters a reading holds, each counted each time it is reached (what is shared counts as often as it is met; a slice's spare places count too). A statement '..UptoSaid' is the law's where the arguments, and the package variables that the reading takes, are together of bulk at most 1048576: NARROWER than '..Said'. Prove '..Said' where nothing that the law and all that it calls make is longer than what came in: it says more and counts as full. Else prove '..UptoSaid'. A law counts once. -/
mutual
def uptoBulk {H : Type} : DataW H → Nat
  | .lit (.string bytes) => bytes.length + 1
  | .lit _ => 1
  | .nil => 1
  | .ptr d => uptoBulk d + 1
  | .slice elems spare => uptoBulkAll elems + uptoBulkAll spare + 1
  | .agg parts => uptoBulkAll parts + 1
  | .iface _ d => uptoBulk d + 1
  | .map entries => uptoBulkEntries entries + 1
  | .held _ => 1
def uptoBulkAll {H : Type} : List (DataW H) → Nat
  | [] => 0
  | d :: r => uptoBulk d + uptoBulkAll r
def uptoBulkEntries {H : Type} : List (Lit × DataW H) → Nat
  | [] => 0
  | x :: r => uptoBulkEntry x + uptoBulkEntries r
def uptoBulkEntry {H : Type} : Lit × DataW H → Nat
  | (.string bytes, d) => bytes.length + uptoBulk d + 1
  | (_, d) => uptoBulk d + 1
 end
def uptoSmall : (H : Type) → List (DataW H) → Bool := fun _ ds => decide (uptoBulkAll ds ≤ 1048576)
def OpenSpec.upto (s : _root_.Go.ChangeSpec) : _root_.Go.OpenSpec := { _root_.Go.OpenSpec.ofChange s with cond := some uptoSmall }

/-- 'wharfagelaw07.PathFroms', WHERE WHAT IT READS IS OF BULK AT MOST 1048576: true; the input reads as it did. -/
def pathFromsUptoRow : OpenClaim := { program := "ytmmhdjibigopfaa", sum := "60cd48fb5c579690467aa0aa799843ccafb303acd0030adc9da1726795cf4439", func := "wharfage/wharfagelaw07.PathFroms", spec := "pathFroms", unfollowed := true, recurses := true, apart := false, narrowed := true }
def PathFromsUptoSaid : Prop := pathFromsUptoRow.holds Try.pinned (OpenSpec.upto pathFromsSpec)

/-- 'wharfagelaw07.PathCycles', WHERE WHAT IT READS IS OF BULK AT MOST 1048576: true; the input reads as it did. -/
def pathCyclesUptoRow : OpenClaim := { program := "ytmmhdjibigopfaa", sum := "60cd48fb5c579690467aa0aa799843ccafb303acd0030adc9da1726795cf4439", func := "wharfage/wharfagelaw07.PathCycles", spec := "pathCycles", unfollowed := true, recurses := true, apart := false, narrowed := true }
def PathCyclesUptoSaid : Prop := pathCyclesUptoRow.holds Try.pinned (OpenSpec.upto pathCyclesSpec)

/-- 'wharfagelaw07.PathErrors', WHERE WHAT IT READS IS OF BULK AT MOST 1048576: true; the input reads as it did. -/
def pathErrorsUptoRow : OpenClaim := { program := "ytmmhdjibigopfaa", sum := "60cd48fb5c579690467aa0aa799843ccafb303acd0030adc9da1726795cf4439", func := "wharfage/wharfagelaw07.PathErrors", spec := "pathErrors", unfollowed := true, recurses := true, apart := false, narrowed := true }
def PathErrorsUptoSaid : Prop := pathErrorsUptoRow.holds Try.pinned (OpenSpec.upto pathErrorsSpec)

/-- 'wharfagelaw07.PathShorter', WHERE WHAT IT READS IS OF BULK AT MOST 1048576: true; the input reads as it did. -/
def pathShorterUptoRow : OpenClaim := { program := "ytmmhdjibigopfaa", sum := "60cd48fb5c579690467aa0aa799843ccafb303acd0030adc9da1726795cf4439", func := "wharfage/wharfagelaw07.PathShorter", spec := "pathShorter", unfollowed := true, recurses := true, apart := false, narrowed := true }
def PathShorterUptoSaid : Prop := pathShorterUptoRow.holds Try.pinned (OpenSpec.upto pathShorterSpec)

end Rows
end Go.Proofs.Ytmmhdjibigopfaa
