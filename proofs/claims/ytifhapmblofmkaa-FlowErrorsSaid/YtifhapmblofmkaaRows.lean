/-
  No cell of these rows narrows 'for every input' (looked for: loops, veiled, ifaces, maps, wideKeys, modest, calm, conditions, laid).
  DERIVED. THE GIVEN ROWS OF THIS SEAT. 5 by the template 'for every input the law returns true; each argument reads behind the call as it read before'; 0 by the template 'total and deterministic' (their statements: YtifhapmblofmkaaTotals.lean).
  GIVEN WITH THE SEED: the statements are not yours to turn. If you find one false, say at which input.
  Laid BY PROGRAM, IN A SANDBOX (cutbox-rows.mjs): the forced cells as the released guide's own fill.sh prints them over the translation 87f4a08e77f733a7… (all of the seat's roots in one cut). By AI agents, Wed Nov 11 2026. No macro, syntax, notation, axiom, sorry.
-/
import Derived.Test.YtifhapmblofmkaaChecked
import GoSem.Claim
import GoSem.ClaimJoined
import GoSem.ClaimMapViews
import Derived.JoinedTies
import Derived.KernelRfl
namespace Go.Proofs.Ytifhapmblofmkaa
/- THE CELL 'sum', in the pinned program and in every row, IS THE sha256 OF THE DUMP (.gsa) THAT YtifhapmblofmkaaProg.lean LOADS. Nothing in Lean hashes anything: it is a label: what it is worth is what the hold of that sum in a sandbox is worth. -/
noncomputable def Try.pinned : Pinned := { name := "ytifhapmblofmkaa", sum := "87f4a08e77f733a798ab5addff263c8f18bf0a9c88f30364d5e20b615fd1b5ee", checked := Try.checked }
namespace Rows
def none {H : Type} : Left H := { results := [], args := [] }

/-- 'wharfagelaw09.FlowMosts': WHATEVER THE INPUT: true; the input reads as it did. -/
def flowMostsSpec : ChangeSpec := { name := "flowMosts", fn := fun _ => fun
  | [d1, d2, d3, d4] => { results := [.lit (.bool true)], args := [d1, d2, d3, d4] }
  | _ => none }
def flowMostsRow : OpenClaim := { program := "ytifhapmblofmkaa", sum := "87f4a08e77f733a798ab5addff263c8f18bf0a9c88f30364d5e20b615fd1b5ee", func := "wharfage/wharfagelaw09.FlowMosts", spec := "flowMosts", unfollowed := true, recurses := true, apart := false }
def FlowMostsSaid : Prop := flowMostsRow.holds Try.pinned (OpenSpec.ofChange flowMostsSpec)

/-- ITS FALSE NEIGHBOUR: 'it returns false'. Refute it at one input. -/
def flowMostsWrong : ChangeSpec := { name := "flowMosts", fn := fun _ => fun
  | [d1, d2, d3, d4] => { results := [.lit (.bool false)], args := [d1, d2, d3, d4] }
  | _ => none }
def FlowMostsWrongFalsely : Prop := flowMostsRow.holds Try.pinned (OpenSpec.ofChange flowMostsWrong)

/-- 'wharfagelaw09.FlowCuts': WHATEVER THE INPUT: true; the input reads as it did. -/
def flowCutsSpec : ChangeSpec := { name := "flowCuts", fn := fun _ => fun
  | [d1, d2, d3, d4, d5] => { results := [.lit (.bool true)], args := [d1, d2, d3, d4, d5] }
  | _ => none }
def flowCutsRow : OpenClaim := { program := "ytifhapmblofmkaa", sum := "87f4a08e77f733a798ab5addff263c8f18bf0a9c88f30364d5e20b615fd1b5ee", func := "wharfage/wharfagelaw09.FlowCuts", spec := "flowCuts", unfollowed := true, recurses := true, apart := false }
def FlowCutsSaid : Prop := flowCutsRow.holds Try.pinned (OpenSpec.ofChange flowCutsSpec)

/-- ITS FALSE NEIGHBOUR: 'it returns false'. Refute it at one input. -/
def flowCutsWrong : ChangeSpec := { name := "flowCuts", fn := fun _ => fun
  | [d1, d2, d3, d4, d5] => { results := [.lit (.bool false)], args := [d1, d2, d3, d4, d5] }
  | _ => none }
def FlowCutsWrongFalsely : Prop := flowCutsRow.holds Try.pinned (OpenSpec.ofChange flowCutsWrong)

/-- 'wharfagelaw09.FlowRights': WHATEVER THE INPUT: true; the input reads as it did. -/
def flowRightsSpec : ChangeSpec := { name := "flowRights", fn := fun _ => fun
  | [d1, d2, d3, d4, d5, d6] => { results := [.lit (.bool true)], args := [d1, d2, d3, d4, d5, d6] }
  | _ => none }
def flowRightsRow : OpenClaim := { program := "ytifhapmblofmkaa", sum := "87f4a08e77f733a798ab5addff263c8f18bf0a9c88f30364d5e20b615fd1b5ee", func := "wharfage/wharfagelaw09.FlowRights", spec := "flowRights", unfollowed := true, recurses := true, apart := false }
def FlowRightsSaid : Prop := flowRightsRow.holds Try.pinned (OpenSpec.ofChange flowRightsSpec)

/-- ITS FALSE NEIGHBOUR: 'it returns false'. Refute it at one input. -/
def flowRightsWrong : ChangeSpec := { name := "flowRights", fn := fun _ => fun
  | [d1, d2, d3, d4, d5, d6] => { results := [.lit (.bool false)], args := [d1, d2, d3, d4, d5, d6] }
  | _ => none }
def FlowRightsWrongFalsely : Prop := flowRightsRow.holds Try.pinned (OpenSpec.ofChange flowRightsWrong)

/-- 'wharfagelaw09.FlowErrors': WHATEVER THE INPUT: true; the input reads as it did. -/
def flowErrorsSpec : ChangeSpec := { name := "flowErrors", fn := fun _ => fun
  | [d1, d2, d3, d4] => { results := [.lit (.bool true)], args := [d1, d2, d3, d4] }
  | _ => none }
def flowErrorsRow : OpenClaim := { program := "ytifhapmblofmkaa", sum := "87f4a08e77f733a798ab5addff263c8f18bf0a9c88f30364d5e20b615fd1b5ee", func := "wharfage/wharfagelaw09.FlowErrors", spec := "flowErrors", unfollowed := true, recurses := true, apart := false }
def FlowErrorsSaid : Prop := flowErrorsRow.holds Try.pinned (OpenSpec.ofChange flowErrorsSpec)

/-- ITS FALSE NEIGHBOUR: 'it returns false'. Refute it at one input. -/
def flowErrorsWrong : ChangeSpec := { name := "flowErrors", fn := fun _ => fun
  | [d1, d2, d3, d4] => { results := [.lit (.bool false)], args := [d1, d2, d3, d4] }
  | _ => none }
def FlowErrorsWrongFalsely : Prop := flowErrorsRow.holds Try.pinned (OpenSpec.ofChange flowErrorsWrong)

/-- 'wharfagelaw09.FlowTurned': WHATEVER THE INPUT: true; the input reads as it did. -/
def flowTurnedSpec : ChangeSpec := { name := "flowTurned", fn := fun _ => fun
  | [d1, d2, d3, d4] => { results := [.lit (.bool true)], args := [d1, d2, d3, d4] }
  | _ => none }
def flowTurnedRow : OpenClaim := { program := "ytifhapmblofmkaa", sum := "87f4a08e77f733a798ab5addff263c8f18bf0a9c88f30364d5e20b615fd1b5ee", func := "wharfage/wharfagelaw09.FlowTurned", spec := "flowTurned", unfollowed := true, recurses := true, apart := false }
def FlowTurnedSaid : Prop := flowTurnedRow.holds Try.pinned (OpenSpec.ofChange flowTurnedSpec)

/-- ITS FALSE NEIGHBOUR: 'it returns false'. Refute it at one input. -/
def flowTurnedWrong : ChangeSpec := { name := "flowTurned", fn := fun _ => fun
  | [d1, d2, d3, d4] => { results := [.lit (.bool false)], args := [d1, d2, d3, d4] }
  | _ => none }
def FlowTurnedWrongFalsely : Prop := flowTurnedRow.holds Try.pinned (OpenSpec.ofChange flowTurnedWrong)

/- THE SECOND FORM. 'bulk': how many values and letters a reading holds, each counted each time it is reached (what is shared counts as often as it is met; a slice's spare places count too). A statement '..UptoSaid' is the law's where the arguments, and the package variables that the reading takes, are together of bulk at most 1048576: NARROWER than '..Said'. Prove '..Said' where nothing that the law and all that it calls make is longer than what came in: it says more and counts as full. Else prove '..UptoSaid'. A law counts once. -/
mutual
def uptoBulk {H : Type} : DataW H → Nat
  | .lit (.string bytes) => bytes.length + 1
  | .lit _ => 1
  | .nil => 1
  | .ptr d => uptoBulk d + 1
  | .slice elems spare => uptoBulkAll elems + uptoBulkAll spare + 1
  | .agg parts => uptoBulkAll parts + 1
  | .iface _ d => uptoBulk d + 1
  | .map entries => uptoBulkEntries entries + 1
  | .held _ => 1
def uptoBulkAll {H : Type} : List (DataW H) → Nat
  | [] => 0
  | d :: r => uptoBulk d + uptoBulkAll r
def uptoBulkEntries {H : Type} : List (Lit × DataW H) → Nat
  | [] => 0
  | x :: r => uptoBulkEntry x + uptoBulkEntries r
def uptoBulkEntry {H : Type} : Lit × DataW H → Nat
  | (.string bytes, d) => bytes.length + uptoBulk d + 1
  | (_, d) => uptoBulk d + 1
 end
def uptoSmall : (H : Type) → List (DataW H) → Bool := fun _ ds => decide (uptoBulkAll ds ≤ 1048576)
def OpenSpec.upto (s : _root_.Go.ChangeSpec) : _root_.Go.OpenSpec := { _root_.Go.OpenSpec.ofChange s with cond := some uptoSmall }

/-- 'wharfagelaw09.FlowMosts', WHERE WHAT IT READS IS OF BULK AT MOST 1048576: true; the input reads as it did. -/
def flowMostsUptoRow : OpenClaim := { program := "ytifhapmblofmkaa", sum := "87f4a08e77f733a798ab5addff263c8f18bf0a9c88f30364d5e20b615fd1b5ee", func := "wharfage/wharfagelaw09.FlowMosts", spec := "flowMosts", unfollowed := true, recurses := true, apart := false, narrowed := true }
def FlowMostsUptoSaid : Prop := flowMostsUptoRow.holds Try.pinned (OpenSpec.upto flowMostsSpec)

/-- 'wharfagelaw09.FlowCuts', WHERE WHAT IT READS IS OF BULK AT MOST 1048576: true; the input reads as it did. -/
def flowCutsUptoRow : OpenClaim := { program := "ytifhapmblofmkaa", sum := "87f4a08e77f733a798ab5addff263c8f18bf0a9c88f30364d5e20b615fd1b5ee", func := "wharfage/wharfagelaw09.FlowCuts", spec := "flowCuts", unfollowed := true, recurses := true, apart := false, narrowed := true }
def FlowCutsUptoSaid : Prop := flowCutsUptoRow.holds Try.pinned (OpenSpec.upto flowCutsSpec)

/-- 'wharfagelaw09.FlowRights', WHERE WHAT IT READS IS OF BULK AT MOST 1048576: true; the input reads as it did. -/
def flowRightsUptoRow : OpenClaim := { program := "ytifhapmblofmkaa", sum := "87f4a08e77f733a798ab5addff263c8f18bf0a9c88f30364d5e20b615fd1b5ee", func := "wharfage/wharfagelaw09.FlowRights", spec := "flowRights", unfollowed := true, recurses := true, apart := false, narrowed := true }
def FlowRightsUptoSaid : Prop := flowRightsUptoRow.holds Try.pinned (OpenSpec.upto flowRightsSpec)

/-- 'wharfagelaw09.FlowErrors', WHERE WHAT IT READS IS OF BULK AT MOST 1048576: true; the input reads as it did. -/
def flowErrorsUptoRow : OpenClaim := { program := "ytifhapmblofmkaa", sum := "87f4a08e77f733a798ab5addff263c8f18bf0a9c88f30364d5e20b615fd1b5ee", func := "wharfage/wharfagelaw09.FlowErrors", spec := "flowErrors", unfollowed := true, recurses := true, apart := false, narrowed := true }
def FlowErrorsUptoSaid : Prop := flowErrorsUptoRow.holds Try.pinned (OpenSpec.upto flowErrorsSpec)

/-- 'wharfagelaw09.FlowTurned', WHERE WHAT IT READS IS OF BULK AT MOST 1048576: true; the input reads as it did. -/
def flowTurnedUptoRow : OpenClaim := { program := "ytifhapmblofmkaa", sum := "87f4a08e77f733a798ab5addff263c8f18bf0a9c88f30364d5e20b615fd1b5ee", func := "wharfage/wharfagelaw09.FlowTurned", spec := "flowTurned", unfollowed := true, recurses := true, apart := false, narrowed := true }
def FlowTurnedUptoSaid : Prop := flowTurnedUptoRow.holds Try.pinned (OpenSpec.upto flowTurnedSpec)

end Rows
end Go.Proofs.Ytifhapmblofmkaa
