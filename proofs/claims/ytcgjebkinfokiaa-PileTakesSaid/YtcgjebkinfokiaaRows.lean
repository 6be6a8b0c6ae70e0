/-
  No cell of these rows narrows 'for every input' (looked for: loops, veiled, ifaces, maps, wideKeys, modest, calm, conditions, laid).
  DERIVED. THE GIVEN ROWS OF THIS SEAT. 3 by the template 'for every input the law returns true; each argument reads behind the call as it read before'; 0 by the template 'total and deterministic' (their statements: YtcgjebkinfokiaaTotals.lean).
  GIVEN WITH THE SEED: the statements are not yours to turn. If you find one false, say at which input.
  Laid BY PROGRAM, IN A SANDBOX (cutbox-rows.mjs): the forced cells as the released guide's own fill.sh prints them over the translation 1bdcce24fb3b099c… (all of the seat's roots in one cut). By AI agents, Wed Nov 11 2026. No macro, syntax, notation, axiom, sorry.
-/
import Derived.Test.YtcgjebkinfokiaaChecked
import GoSem.Claim
import GoSem.ClaimJoined
import GoSem.ClaimMapViews
import Derived.JoinedTies
import Derived.KernelRfl
namespace Go.Proofs.Ytcgjebkinfokiaa
/- THE CELL 'sum', in the pinned program and in every row, IS THE sha256 OF THE DUMP (.gsa) THAT YtcgjebkinfokiaaProg.lean LOADS. Nothing in Lean hashes anything: it is a label: what it is worth is what the hold of that sum in a sandbox is worth. -/
noncomputable def Try.pinned : Pinned := { name := "ytcgjebkinfokiaa", sum := "1bdcce24fb3b099c96ff15c6bf54b155eeffba59fe767f7f0f8205b0cfed689e", checked := Try.checked }
namespace Rows
def none {H : Type} : Left H := { results := [], args := [] }

/-- 'wharfagelaw04.PileTakes': WHATEVER THE INPUT: true; the input reads as it did. -/
def pileTakesSpec : ChangeSpec := { name := "pileTakes", fn := fun _ => fun
  | [d] => { results := [.lit (.bool true)], args := [d] }
  | _ => none }
def pileTakesRow : OpenClaim := { program := "ytcgjebkinfokiaa", sum := "1bdcce24fb3b099c96ff15c6bf54b155eeffba59fe767f7f0f8205b0cfed689e", func := "wharfage/wharfagelaw04.PileTakes", spec := "pileTakes", unfollowed := true, recurses := true, apart := false }
def PileTakesSaid : Prop := pileTakesRow.holds Try.pinned (OpenSpec.ofChange pileTakesSpec)

/-- ITS FALSE NEIGHBOUR: 'it returns false'. Refute it at one input. -/
def pileTakesWrong : ChangeSpec := { name := "pileTakes", fn := fun _ => fun
  | [d] => { results := [.lit (.bool false)], args := [d] }
  | _ => none }
def PileTakesWrongFalsely : Prop := pileTakesRow.holds Try.pinned (OpenSpec.ofChange pileTakesWrong)

/-- 'wharfagelaw04.PileSorts': WHATEVER THE INPUT: true; the input reads as it did. -/
def pileSortsSpec : ChangeSpec := { name := "pileSorts", fn := fun _ => fun
  | [d] => { results := [.lit (.bool true)], args := [d] }
  | _ => none }
def pileSortsRow : OpenClaim := { program := "ytcgjebkinfokiaa", sum := "1bdcce24fb3b099c96ff15c6bf54b155eeffba59fe767f7f0f8205b0cfed689e", func := "wharfage/wharfagelaw04.PileSorts", spec := "pileSorts", unfollowed := true, recurses := true, apart := false }
def PileSortsSaid : Prop := pileSortsRow.holds Try.pinned (OpenSpec.ofChange pileSortsSpec)

/-- ITS FALSE NEIGHBOUR: 'it returns false'. Refute it at one input. -/
def pileSortsWrong : ChangeSpec := { name := "pileSorts", fn := fun _ => fun
  | [d] => { results := [.lit (.bool false)], args := [d] }
  | _ => none }
def PileSortsWrongFalsely : Prop := pileSortsRow.holds Try.pinned (OpenSpec.ofChange pileSortsWrong)

/-- 'wharfagelaw04.PileNil': WHATEVER THE INPUT: true; the input reads as it did. -/
def pileNilSpec : ChangeSpec := { name := "pileNil", fn := fun _ => fun
  | [d1, d2] => { results := [.lit (.bool true)], args := [d1, d2] }
  | _ => none }
def pileNilRow : OpenClaim := { program := "ytcgjebkinfokiaa", sum := "1bdcce24fb3b099c96ff15c6bf54b155eeffba59fe767f7f0f8205b0cfed689e", func := "wharfage/wharfagelaw04.PileNil", spec := "pileNil", unfollowed := true, recurses := true, apart := false }
def PileNilSaid : Prop := pileNilRow.holds Try.pinned (OpenSpec.ofChange pileNilSpec)

/-- ITS FALSE NEIGHBOUR: 'it returns false'. Refute it at one input. -/
def pileNilWrong : ChangeSpec := { name := "pileNil", fn := fun _ => fun
  | [d1, d2] => { results := [.lit (.bool false)], args := [d1, d2] }
  | _ => none }
def PileNilWrongFalsely : Prop := pileNilRow.holds Try.pinned (OpenSpec.ofChange pileNilWrong)

/- THE SECOND FORM. 'bulk': how many values and letters a reading holds, each counted each time it is reached (what is shared counts as often as it is met; a slice's spare places count too). A statement '..UptoSaid' is the law's where the arguments, and the package variables that the reading takes, are together of bulk at most 1048576: NARROWER than '..Said'. Prove '..Said' where nothing that the law and all that it calls make is longer than what came in: it says more and counts as full. Else prove '..UptoSaid'. A law counts once. -/
mutual
def uptoBulk {H : Type} : DataW H → Nat
  | .lit (.string bytes) => bytes.length + 1
  | .lit _ => 1
  | .nil => 1
  | .ptr d => uptoBulk d + 1
  | .slice elems spare => uptoBulkAll elems + uptoBulkAll spare + 1
  | .agg parts => uptoBulkAll parts + 1
  | .iface _ d => uptoBulk d + 1
  | .map entries => uptoBulkEntries entries + 1
  | .held _ => 1
def uptoBulkAll {H : Type} : List (DataW H) → Nat
  | [] => 0
  | d :: r => uptoBulk d + uptoBulkAll r
def uptoBulkEntries {H : Type} : List (Lit × DataW H) → Nat
  | [] => 0
  | x :: r => uptoBulkEntry x + uptoBulkEntries r
def uptoBulkEntry {H : Type} : Lit × DataW H → Nat
  | (.string bytes, d) => bytes.length + uptoBulk d + 1
  | (_, d) => uptoBulk d + 1
 end
def uptoSmall : (H : Type) → List (DataW H) → Bool := fun _ ds => decide (uptoBulkAll ds ≤ 1048576)
def OpenSpec.upto (s : _root_.Go.ChangeSpec) : _root_.Go.OpenSpec := { _root_.Go.OpenSpec.ofChange s with cond := some uptoSmall }

/-- 'wharfagelaw04.PileTakes', WHERE WHAT IT READS IS OF BULK AT MOST 1048576: true; the input reads as it did. -/
def pileTakesUptoRow : OpenClaim := { program := "ytcgjebkinfokiaa", sum := "1bdcce24fb3b099c96ff15c6bf54b155eeffba59fe767f7f0f8205b0cfed689e", func := "wharfage/wharfagelaw04.PileTakes", spec := "pileTakes", unfollowed := true, recurses := true, apart := false, narrowed := true }
def PileTakesUptoSaid : Prop := pileTakesUptoRow.holds Try.pinned (OpenSpec.upto pileTakesSpec)

/-- 'wharfagelaw04.PileSorts', WHERE WHAT IT READS IS OF BULK AT MOST 1048576: true; the input reads as it did. -/
def pileSortsUptoRow : OpenClaim := { program := "ytcgjebkinfokiaa", sum := "1bdcce24fb3b099c96ff15c6bf54b155eeffba59fe767f7f0f8205b0cfed689e", func := "wharfage/wharfagelaw04.PileSorts", spec := "pileSorts", unfollowed := true, recurses := true, apart := false, narrowed := true }
def PileSortsUptoSaid : Prop := pileSortsUptoRow.holds Try.pinned (OpenSpec.upto pileSortsSpec)

/-- 'wharfagelaw04.PileNil', WHERE WHAT IT READS IS OF BULK AT MOST 1048576: true; the input reads as it did. -/
def pileNilUptoRow : OpenClaim := { program := "ytcgjebkinfokiaa", sum := "1bdcce24fb3b099c96ff15c6bf54b155eeffba59fe767f7f0f8205b0cfed689e", func := "wharfage/wharfagelaw04.PileNil", spec := "pileNil", unfollowed := true, recurses := true, apart := false, narrowed := true }
def PileNilUptoSaid : Prop := pileNilUptoRow.holds Try.pinned (OpenSpec.upto pileNilSpec)

end Rows
end Go.Proofs.Ytcgjebkinfokiaa
