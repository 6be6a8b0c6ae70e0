/-
  No cell of these rows narrows 'for every input' (looked for: loops, veiled, ifaces, maps, wideKeys, modest, calm, conditions, laid).
  DERIVED. THE GIVEN ROWS OF THIS SEAT. 5 by the template 'for every input the law returns true; each argument reads behind the call as it read before'; 0 by the template 'total and deterministic' (their statements: YtchdpapaojkbhaaTotals.lean).
  GIVEN WITH THE SEED: the statements are not yours to turn. If you find one false, say at which input.
  Laid BY PROGRAM, IN A SANDBOX (cutbox-rows.mjs): the forced cells as the released guide's own fill.sh prints them over the translation 80b34cd75fa9887a… (all of the seat's roots in one cut). By AI agents, Wed Nov 11 2026. No macro, syntax, notation, axiom, sorry.
-/
import Derived.Test.YtchdpapaojkbhaaChecked
import GoSem.Claim
import GoSem.ClaimJoined
import GoSem.ClaimMapViews
import Derived.JoinedTies
import Derived.KernelRfl
namespace Go.Proofs.Ytchdpapaojkbhaa
/- THE CELL 'sum', in the pinned program and in every row, IS THE sha256 OF THE DUMP (.gsa) THAT YtchdpapaojkbhaaProg.lean LOADS. Nothing in Lean hashes anything: it is a label: what it is worth is what the hold of that sum in a sandbox is worth. -/
noncomputable def Try.pinned : Pinned := { name := "ytchdpapaojkbhaa", sum := "80b34cd75fa9887a52bd2ca3abc1d86b991e27c4497805056e60043903c9ddc9", checked := Try.checked }
namespace Rows
def none {H : Type} : Left H := { results := [], args := [] }

/-- 'wharfagelaw14.ReachReadies': WHATEVER THE INPUT: true; the input reads as it did. -/
def reachReadiesSpec : ChangeSpec := { name := "reachReadies", fn := fun _ => fun
  | [d] => { results := [.lit (.bool true)], args := [d] }
  | _ => none }
def reachReadiesRow : OpenClaim := { program := "ytchdpapaojkbhaa", sum := "80b34cd75fa9887a52bd2ca3abc1d86b991e27c4497805056e60043903c9ddc9", func := "wharfage/wharfagelaw14.ReachReadies", spec := "reachReadies", unfollowed := true, recurses := true, apart := false }
def ReachReadiesSaid : Prop := reachReadiesRow.holds Try.pinned (OpenSpec.ofChange reachReadiesSpec)

/-- ITS FALSE NEIGHBOUR: 'it returns false'. Refute it at one input. -/
def reachReadiesWrong : ChangeSpec := { name := "reachReadies", fn := fun _ => fun
  | [d] => { results := [.lit (.bool false)], args := [d] }
  | _ => none }
def ReachReadiesWrongFalsely : Prop := reachReadiesRow.holds Try.pinned (OpenSpec.ofChange reachReadiesWrong)

/-- 'wharfagelaw14.ReachWays': WHATEVER THE INPUT: true; the input reads as it did. -/
def reachWaysSpec : ChangeSpec := { name := "reachWays", fn := fun _ => fun
  | [d1, d2] => { results := [.lit (.bool true)], args := [d1, d2] }
  | _ => none }
def reachWaysRow : OpenClaim := { program := "ytchdpapaojkbhaa", sum := "80b34cd75fa9887a52bd2ca3abc1d86b991e27c4497805056e60043903c9ddc9", func := "wharfage/wharfagelaw14.ReachWays", spec := "reachWays", unfollowed := true, recurses := true, apart := false }
def ReachWaysSaid : Prop := reachWaysRow.holds Try.pinned (OpenSpec.ofChange reachWaysSpec)

/-- ITS FALSE NEIGHBOUR: 'it returns false'. Refute it at one input. -/
def reachWaysWrong : ChangeSpec := { name := "reachWays", fn := fun _ => fun
  | [d1, d2] => { results := [.lit (.bool false)], args := [d1, d2] }
  | _ => none }
def ReachWaysWrongFalsely : Prop := reachWaysRow.holds Try.pinned (OpenSpec.ofChange reachWaysWrong)

/-- 'wharfagelaw14.ReachMays': WHATEVER THE INPUT: true; the input reads as it did. -/
def reachMaysSpec : ChangeSpec := { name := "reachMays", fn := fun _ => fun
  | [d] => { results := [.lit (.bool true)], args := [d] }
  | _ => none }
def reachMaysRow : OpenClaim := { program := "ytchdpapaojkbhaa", sum := "80b34cd75fa9887a52bd2ca3abc1d86b991e27c4497805056e60043903c9ddc9", func := "wharfage/wharfagelaw14.ReachMays", spec := "reachMays", unfollowed := true, recurses := true, apart := false }
def ReachMaysSaid : Prop := reachMaysRow.holds Try.pinned (OpenSpec.ofChange reachMaysSpec)

/-- ITS FALSE NEIGHBOUR: 'it returns false'. Refute it at one input. -/
def reachMaysWrong : ChangeSpec := { name := "reachMays", fn := fun _ => fun
  | [d] => { results := [.lit (.bool false)], args := [d] }
  | _ => none }
def ReachMaysWrongFalsely : Prop := reachMaysRow.holds Try.pinned (OpenSpec.ofChange reachMaysWrong)

/-- 'wharfagelaw14.ReachNone': WHATEVER THE INPUT: true; the input reads as it did. -/
def reachNoneSpec : ChangeSpec := { name := "reachNone", fn := fun _ => fun
  | [d1, d2, d3] => { results := [.lit (.bool true)], args := [d1, d2, d3] }
  | _ => none }
def reachNoneRow : OpenClaim := { program := "ytchdpapaojkbhaa", sum := "80b34cd75fa9887a52bd2ca3abc1d86b991e27c4497805056e60043903c9ddc9", func := "wharfage/wharfagelaw14.ReachNone", spec := "reachNone", unfollowed := true, recurses := true, apart := false }
def ReachNoneSaid : Prop := reachNoneRow.holds Try.pinned (OpenSpec.ofChange reachNoneSpec)

/-- ITS FALSE NEIGHBOUR: 'it returns false'. Refute it at one input. -/
def reachNoneWrong : ChangeSpec := { name := "reachNone", fn := fun _ => fun
  | [d1, d2, d3] => { results := [.lit (.bool false)], args := [d1, d2, d3] }
  | _ => none }
def ReachNoneWrongFalsely : Prop := reachNoneRow.holds Try.pinned (OpenSpec.ofChange reachNoneWrong)

/-- 'wharfagelaw14.ReachSooner': WHATEVER THE INPUT: true; the input reads as it did. -/
def reachSoonerSpec : ChangeSpec := { name := "reachSooner", fn := fun _ => fun
  | [d1, d2, d3] => { results := [.lit (.bool true)], args := [d1, d2, d3] }
  | _ => none }
def reachSoonerRow : OpenClaim := { program := "ytchdpapaojkbhaa", sum := "80b34cd75fa9887a52bd2ca3abc1d86b991e27c4497805056e60043903c9ddc9", func := "wharfage/wharfagelaw14.ReachSooner", spec := "reachSooner", unfollowed := true, recurses := true, apart := false }
def ReachSoonerSaid : Prop := reachSoonerRow.holds Try.pinned (OpenSpec.ofChange reachSoonerSpec)

/-- ITS FALSE NEIGHBOUR: 'it returns false'. Refute it at one input. -/
def reachSoonerWrong : ChangeSpec := { name := "reachSooner", fn := fun _ => fun
  | [d1, d2, d3] => { results := [.lit (.bool false)], args := [d1, d2, d3] }
  | _ => none }
def ReachSoonerWrongFalsely : Prop := reachSoonerRow.holds Try.pinned (OpenSpec.ofChange reachSoonerWrong)

/- THE SECOND FORM. 'bulk': how many values and letters a reading holds, each counted each time it is reached (what is shared counts as often as it is met; a slice's spare places count too). A statement '..UptoSaid' is the law's where the arguments, and the package variables that the reading takes, are together of bulk at most 1048576: NARROWER than '..Said'. Prove '..Said' where nothing that the law and all that it calls make is longer than what came in: it says more and counts as full. Else prove '..UptoSaid'. A law counts once. -/
mutual
def uptoBulk {H : Type} : DataW H → Nat
  | .lit (.string bytes) => bytes.length + 1
  | .lit _ => 1
  | .nil => 1
  | .ptr d => uptoBulk d + 1
  | .slice elems spare => uptoBulkAll elems + uptoBulkAll spare + 1
  | .agg parts => uptoBulkAll parts + 1
  | .iface _ d => uptoBulk d + 1
  | .map entries => uptoBulkEntries entries + 1
  | .held _ => 1
def uptoBulkAll {H : Type} : List (DataW H) → Nat
  | [] => 0
  | d :: r => uptoBulk d + uptoBulkAll r
def uptoBulkEntries {H : Type} : List (Lit × DataW H) → Nat
  | [] => 0
  | x :: r => uptoBulkEntry x + uptoBulkEntries r
def uptoBulkEntry {H : Type} : Lit × DataW H → Nat
  | (.string bytes, d) => bytes.length + uptoBulk d + 1
  | (_, d) => uptoBulk d + 1
 end
def uptoSmall : (H : Type) → List (DataW H) → Bool := fun _ ds => decide (uptoBulkAll ds ≤ 1048576)
def OpenSpec.upto (s : _root_.Go.ChangeSpec) : _root_.Go.OpenSpec := { _root_.Go.OpenSpec.ofChange s with cond := some uptoSmall }

/-- 'wharfagelaw14.ReachReadies', WHERE WHAT IT READS IS OF BULK AT MOST 1048576: true; the input reads as it did. -/
def reachReadiesUptoRow : OpenClaim := { program := "ytchdpapaojkbhaa", sum := "80b34cd75fa9887a52bd2ca3abc1d86b991e27c4497805056e60043903c9ddc9", func := "wharfage/wharfagelaw14.ReachReadies", spec := "reachReadies", unfollowed := true, recurses := true, apart := false, narrowed := true }
def ReachReadiesUptoSaid : Prop := reachReadiesUptoRow.holds Try.pinned (OpenSpec.upto reachReadiesSpec)

/-- 'wharfagelaw14.ReachWays', WHERE WHAT IT READS IS OF BULK AT MOST 1048576: true; the input reads as it did. -/
def reachWaysUptoRow : OpenClaim := { program := "ytchdpapaojkbhaa", sum := "80b34cd75fa9887a52bd2ca3abc1d86b991e27c4497805056e60043903c9ddc9", func := "wharfage/wharfagelaw14.ReachWays", spec := "reachWays", unfollowed := true, recurses := true, apart := false, narrowed := true }
def ReachWaysUptoSaid : Prop := reachWaysUptoRow.holds Try.pinned (OpenSpec.upto reachWaysSpec)

/-- 'wharfagelaw14.ReachMays', WHERE WHAT IT READS IS OF BULK AT MOST 1048576: true; the input reads as it did. -/
def reachMaysUptoRow : OpenClaim := { program := "ytchdpapaojkbhaa", sum := "80b34cd75fa9887a52bd2ca3abc1d86b991e27c4497805056e60043903c9ddc9", func := "wharfage/wharfagelaw14.ReachMays", spec := "reachMays", unfollowed := true, recurses := true, apart := false, narrowed := true }
def ReachMaysUptoSaid : Prop := reachMaysUptoRow.holds Try.pinned (OpenSpec.upto reachMaysSpec)

/-- 'wharfagelaw14.ReachNone', WHERE WHAT IT READS IS OF BULK AT MOST 1048576: true; the input reads as it did. -/
def reachNoneUptoRow : OpenClaim := { program := "ytchdpapaojkbhaa", sum := "80b34cd75fa9887a52bd2ca3abc1d86b991e27c4497805056e60043903c9ddc9", func := "wharfage/wharfagelaw14.ReachNone", spec := "reachNone", unfollowed := true, recurses := true, apart := false, narrowed := true }
def ReachNoneUptoSaid : Prop := reachNoneUptoRow.holds Try.pinned (OpenSpec.upto reachNoneSpec)

/-- 'wharfagelaw14.ReachSooner', WHERE WHAT IT READS IS OF BULK AT MOST 1048576: true; the input reads as it did. -/
def reachSoonerUptoRow : OpenClaim := { program := "ytchdpapaojkbhaa", sum := "80b34cd75fa9887a52bd2ca3abc1d86b991e27c4497805056e60043903c9ddc9", func := "wharfage/wharfagelaw14.ReachSooner", spec := "reachSooner", unfollowed := true, recurses := true, apart := false, narrowed := true }
def ReachSoonerUptoSaid : Prop := reachSoonerUptoRow.holds Try.pinned (OpenSpec.upto reachSoonerSpec)

end Rows
end Go.Proofs.Ytchdpapaojkbhaa
