/-
  NARROWER THAN 'FOR EVERY INPUT', by the rows' own cells (each row's printed sentence says how): RealKinds: laid · RealLess: laid · RealFirsts: laid · RealRatios: laid · RealCools: laid · RealAccepts: laid · RealFairer: laid · RealTexts: laid.
  DERIVED. THE GIVEN ROWS OF THIS SEAT. 8 by the template 'for every input the law returns true; each argument reads behind the call as it read before'; 0 by the template 'total and deterministic' (their statements: YtepnhddileadmaaDoorTotals.lean).
  GIVEN WITH THE SEED: the statements are not yours to turn. If you find one false, say at which input.
  Laid BY PROGRAM, IN A SANDBOX (cutbox-rows.mjs): the forced cells as the released guide's own fill.sh prints them over the translation 6d77ef6ec1318004… (all of the seat's roots in one cut). By AI agents, Wed Nov 11 2026. No macro, syntax, notation, axiom, sorry.
-/
import Derived.Test.YtepnhddileadmaaDoorChecked
import GoSem.Claim
import GoSem.ClaimJoined
import GoSem.ClaimMapViews
import Derived.JoinedTies
import Derived.KernelRfl
namespace Go.Proofs.YtepnhddileadmaaDoor
/- THE CELL 'sum', in the pinned program and in every row, IS THE sha256 OF THE DUMP (.gsa) THAT YtepnhddileadmaaDoorProg.lean LOADS. Nothing in Lean hashes anything: it is a label: what it is worth is what the hold of that sum in a sandbox is worth. -/
noncomputable def Tryd.pinned : Pinned := { name := "ytepnhddileadmaadoor", sum := "6d77ef6ec1318004d636f7c13a9395607b15f2712243e696cdb20fb4e591d91b", checked := Tryd.checked }
namespace Rows
def none {H : Type} : Left H := { results := [], args := [] }

/- WHAT THE LISTED PACKAGE-LEVEL VARIABLES READ AS WHEN THE CALL BEGINS. Each datum BY PROGRAM (the guide's laid-datum.mjs) off the statement by which the dump's own 'gosem.cut.vars' lays the variable. In a bare row this is a premise. The card (YtepnhddileadmaaDoorCards.lean) ties it to the program's text. -/
def laid_math_bits_deBruijn32tab {H : Type} : DataW H := .agg [.lit (.int .u8 0), .lit (.int .u8 1), .lit (.int .u8 28), .lit (.int .u8 2), .lit (.int .u8 29), .lit (.int .u8 14), .lit (.int .u8 24), .lit (.int .u8 3), .lit (.int .u8 30), .lit (.int .u8 22), .lit (.int .u8 20), .lit (.int .u8 15), .lit (.int .u8 25), .lit (.int .u8 17), .lit (.int .u8 4), .lit (.int .u8 8), .lit (.int .u8 31), .lit (.int .u8 27), .lit (.int .u8 13), .lit (.int .u8 23), .lit (.int .u8 21), .lit (.int .u8 19), .lit (.int .u8 16), .lit (.int .u8 7), .lit (.int .u8 26), .lit (.int .u8 12), .lit (.int .u8 18), .lit (.int .u8 6), .lit (.int .u8 11), .lit (.int .u8 5), .lit (.int .u8 10), .lit (.int .u8 9)]
def laid_math_bits_deBruijn64tab {H : Type} : DataW H := .agg [.lit (.int .u8 0), .lit (.int .u8 1), .lit (.int .u8 56), .lit (.int .u8 2), .lit (.int .u8 57), .lit (.int .u8 49), .lit (.int .u8 28), .lit (.int .u8 3), .lit (.int .u8 61), .lit (.int .u8 58), .lit (.int .u8 42), .lit (.int .u8 50), .lit (.int .u8 38), .lit (.int .u8 29), .lit (.int .u8 17), .lit (.int .u8 4), .lit (.int .u8 62), .lit (.int .u8 47), .lit (.int .u8 59), .lit (.int .u8 36), .lit (.int .u8 45), .lit (.int .u8 43), .lit (.int .u8 51), .lit (.int .u8 22), .lit (.int .u8 53), .lit (.int .u8 39), .lit (.int .u8 33), .lit (.int .u8 30), .lit (.int .u8 24), .lit (.int .u8 18), .lit (.int .u8 12), .lit (.int .u8 5), .lit (.int .u8 63), .lit (.int .u8 55), .lit (.int .u8 48), .lit (.int .u8 27), .lit (.int .u8 60), .lit (.int .u8 41), .lit (.int .u8 37), .lit (.int .u8 16), .lit (.int .u8 46), .lit (.int .u8 35), .lit (.int .u8 44), .lit (.int .u8 21), .lit (.int .u8 52), .lit (.int .u8 32), .lit (.int .u8 23), .lit (.int .u8 11), .lit (.int .u8 54), .lit (.int .u8 26), .lit (.int .u8 40), .lit (.int .u8 15), .lit (.int .u8 34), .lit (.int .u8 20), .lit (.int .u8 31), .lit (.int .u8 10), .lit (.int .u8 25), .lit (.int .u8 14), .lit (.int .u8 19), .lit (.int .u8 9), .lit (.int .u8 13), .lit (.int .u8 8), .lit (.int .u8 7), .lit (.int .u8 6)]
def laid_internal_strconv_uint64pow10 {H : Type} : DataW H := .agg [.lit (.int .u64 1), .lit (.int .u64 10), .lit (.int .u64 100), .lit (.int .u64 1000), .lit (.int .u64 10000), .lit (.int .u64 100000), .lit (.int .u64 1000000), .lit (.int .u64 10000000), .lit (.int .u64 100000000), .lit (.int .u64 1000000000), .lit (.int .u64 10000000000), .lit (.int .u64 100000000000), .lit (.int .u64 1000000000000), .lit (.int .u64 10000000000000), .lit (.int .u64 100000000000000), .lit (.int .u64 1000000000000000), .lit (.int .u64 10000000000000000), .lit (.int .u64 100000000000000000), .lit (.int .u64 1000000000000000000), .lit (.int .u64 10000000000000000000)]

/-- 'wharfagelaw02.RealKinds': WHATEVER THE INPUT: true; the input reads as it did. -/
def realKindsSpec : ChangeSpec := { name := "realKinds", fn := fun _ => fun
  | [d] => { results := [.lit (.bool true)], args := [d] }
  | _ => none }
def realKindsRow : OpenClaim := { program := "ytepnhddileadmaadoor", sum := "6d77ef6ec1318004d636f7c13a9395607b15f2712243e696cdb20fb4e591d91b", func := "wharfage/wharfagelaw02.RealKinds", spec := "realKinds", inPlace := ["math.Float64bits", "math.Float64frombits"], named := ["internal/strconv.uint64pow10", "math/bits.deBruijn32tab", "math/bits.deBruijn64tab"], apart := false, laid := [("math/bits.deBruijn32tab", laid_math_bits_deBruijn32tab), ("math/bits.deBruijn64tab", laid_math_bits_deBruijn64tab), ("internal/strconv.uint64pow10", laid_internal_strconv_uint64pow10)] }
def RealKindsSaid : Prop := realKindsRow.holds Tryd.pinned (OpenSpec.ofChange realKindsSpec)

/-- ITS FALSE NEIGHBOUR: 'it returns false'. Refute it at one input. -/
def realKindsWrong : ChangeSpec := { name := "realKinds", fn := fun _ => fun
  | [d] => { results := [.lit (.bool false)], args := [d] }
  | _ => none }
def RealKindsWrongFalsely : Prop := realKindsRow.holds Tryd.pinned (OpenSpec.ofChange realKindsWrong)

/-- 'wharfagelaw02.RealLess': WHATEVER THE INPUT: true; the input reads as it did. -/
def realLessSpec : ChangeSpec := { name := "realLess", fn := fun _ => fun
  | [d1, d2] => { results := [.lit (.bool true)], args := [d1, d2] }
  | _ => none }
def realLessRow : OpenClaim := { program := "ytepnhddileadmaadoor", sum := "6d77ef6ec1318004d636f7c13a9395607b15f2712243e696cdb20fb4e591d91b", func := "wharfage/wharfagelaw02.RealLess", spec := "realLess", inPlace := ["math.Float64bits", "math.Float64frombits"], named := ["internal/strconv.uint64pow10", "math/bits.deBruijn32tab", "math/bits.deBruijn64tab"], apart := false, laid := [("math/bits.deBruijn32tab", laid_math_bits_deBruijn32tab), ("math/bits.deBruijn64tab", laid_math_bits_deBruijn64tab), ("internal/strconv.uint64pow10", laid_internal_strconv_uint64pow10)] }
def RealLessSaid : Prop := realLessRow.holds Tryd.pinned (OpenSpec.ofChange realLessSpec)

/-- ITS FALSE NEIGHBOUR: 'it returns false'. Refute it at one input. -/
def realLessWrong : ChangeSpec := { name := "realLess", fn := fun _ => fun
  | [d1, d2] => { results := [.lit (.bool false)], args := [d1, d2] }
  | _ => none }
def RealLessWrongFalsely : Prop := realLessRow.holds Tryd.pinned (OpenSpec.ofChange realLessWrong)

/-- 'wharfagelaw02.RealFirsts': WHATEVER THE INPUT: true; the input reads as it did. -/
def realFirstsSpec : ChangeSpec := { name := "realFirsts", fn := fun _ => fun
  | [d] => { results := [.lit (.bool true)], args := [d] }
  | _ => none }
def realFirstsRow : OpenClaim := { program := "ytepnhddileadmaadoor", sum := "6d77ef6ec1318004d636f7c13a9395607b15f2712243e696cdb20fb4e591d91b", func := "wharfage/wharfagelaw02.RealFirsts", spec := "realFirsts", inPlace := ["math.Float64bits", "math.Float64frombits"], named := ["internal/strconv.uint64pow10", "math/bits.deBruijn32tab", "math/bits.deBruijn64tab"], apart := false, laid := [("math/bits.deBruijn32tab", laid_math_bits_deBruijn32tab), ("math/bits.deBruijn64tab", laid_math_bits_deBruijn64tab), ("internal/strconv.uint64pow10", laid_internal_strconv_uint64pow10)] }
def RealFirstsSaid : Prop := realFirstsRow.holds Tryd.pinned (OpenSpec.ofChange realFirstsSpec)

/-- ITS FALSE NEIGHBOUR: 'it returns false'. Refute it at one input. -/
def realFirstsWrong : ChangeSpec := { name := "realFirsts", fn := fun _ => fun
  | [d] => { results := [.lit (.bool false)], args := [d] }
  | _ => none }
def RealFirstsWrongFalsely : Prop := realFirstsRow.holds Tryd.pinned (OpenSpec.ofChange realFirstsWrong)

/-- 'wharfagelaw02.RealRatios': WHATEVER THE INPUT: true; the input reads as it did. -/
def realRatiosSpec : ChangeSpec := { name := "realRatios", fn := fun _ => fun
  | [d1, d2] => { results := [.lit (.bool true)], args := [d1, d2] }
  | _ => none }
def realRatiosRow : OpenClaim := { program := "ytepnhddileadmaadoor", sum := "6d77ef6ec1318004d636f7c13a9395607b15f2712243e696cdb20fb4e591d91b", func := "wharfage/wharfagelaw02.RealRatios", spec := "realRatios", inPlace := ["math.Float64bits", "math.Float64frombits"], named := ["internal/strconv.uint64pow10", "math/bits.deBruijn32tab", "math/bits.deBruijn64tab"], apart := false, laid := [("math/bits.deBruijn32tab", laid_math_bits_deBruijn32tab), ("math/bits.deBruijn64tab", laid_math_bits_deBruijn64tab), ("internal/strconv.uint64pow10", laid_internal_strconv_uint64pow10)] }
def RealRatiosSaid : Prop := realRatiosRow.holds Tryd.pinned (OpenSpec.ofChange realRatiosSpec)

/-- ITS FALSE NEIGHBOUR: 'it returns false'. Refute it at one input. -/
def realRatiosWrong : ChangeSpec := { name := "realRatios", fn := fun _ => fun
  | [d1, d2] => { results := [.lit (.bool false)], args := [d1, d2] }
  | _ => none }
def RealRatiosWrongFalsely : Prop := realRatiosRow.holds Tryd.pinned (OpenSpec.ofChange realRatiosWrong)

/-- 'wharfagelaw02.RealCools': WHATEVER THE INPUT: true; the input reads as it did. -/
def realCoolsSpec : ChangeSpec := { name := "realCools", fn := fun _ => fun
  | [d1, d2] => { results := [.lit (.bool true)], args := [d1, d2] }
  | _ => none }
def realCoolsRow : OpenClaim := { program := "ytepnhddileadmaadoor", sum := "6d77ef6ec1318004d636f7c13a9395607b15f2712243e696cdb20fb4e591d91b", func := "wharfage/wharfagelaw02.RealCools", spec := "realCools", inPlace := ["math.Float64bits", "math.Float64frombits"], named := ["internal/strconv.uint64pow10", "math/bits.deBruijn32tab", "math/bits.deBruijn64tab"], apart := false, laid := [("math/bits.deBruijn32tab", laid_math_bits_deBruijn32tab), ("math/bits.deBruijn64tab", laid_math_bits_deBruijn64tab), ("internal/strconv.uint64pow10", laid_internal_strconv_uint64pow10)] }
def RealCoolsSaid : Prop := realCoolsRow.holds Tryd.pinned (OpenSpec.ofChange realCoolsSpec)

/-- ITS FALSE NEIGHBOUR: 'it returns false'. Refute it at one input. -/
def realCoolsWrong : ChangeSpec := { name := "realCools", fn := fun _ => fun
  | [d1, d2] => { results := [.lit (.bool false)], args := [d1, d2] }
  | _ => none }
def RealCoolsWrongFalsely : Prop := realCoolsRow.holds Tryd.pinned (OpenSpec.ofChange realCoolsWrong)

/-- 'wharfagelaw02.RealAccepts': WHATEVER THE INPUT: true; the input reads as it did. -/
def realAcceptsSpec : ChangeSpec := { name := "realAccepts", fn := fun _ => fun
  | [d1, d2, d3] => { results := [.lit (.bool true)], args := [d1, d2, d3] }
  | _ => none }
def realAcceptsRow : OpenClaim := { program := "ytepnhddileadmaadoor", sum := "6d77ef6ec1318004d636f7c13a9395607b15f2712243e696cdb20fb4e591d91b", func := "wharfage/wharfagelaw02.RealAccepts", spec := "realAccepts", inPlace := ["math.Float64bits", "math.Float64frombits"], named := ["internal/strconv.uint64pow10", "math/bits.deBruijn32tab", "math/bits.deBruijn64tab"], apart := false, laid := [("math/bits.deBruijn32tab", laid_math_bits_deBruijn32tab), ("math/bits.deBruijn64tab", laid_math_bits_deBruijn64tab), ("internal/strconv.uint64pow10", laid_internal_strconv_uint64pow10)] }
def RealAcceptsSaid : Prop := realAcceptsRow.holds Tryd.pinned (OpenSpec.ofChange realAcceptsSpec)

/-- ITS FALSE NEIGHBOUR: 'it returns false'. Refute it at one input. -/
def realAcceptsWrong : ChangeSpec := { name := "realAccepts", fn := fun _ => fun
  | [d1, d2, d3] => { results := [.lit (.bool false)], args := [d1, d2, d3] }
  | _ => none }
def RealAcceptsWrongFalsely : Prop := realAcceptsRow.holds Tryd.pinned (OpenSpec.ofChange realAcceptsWrong)

/-- 'wharfagelaw02.RealFairer': WHATEVER THE INPUT: true; the input reads as it did. -/
def realFairerSpec : ChangeSpec := { name := "realFairer", fn := fun _ => fun
  | [d1, d2, d3, d4, d5] => { results := [.lit (.bool true)], args := [d1, d2, d3, d4, d5] }
  | _ => none }
def realFairerRow : OpenClaim := { program := "ytepnhddileadmaadoor", sum := "6d77ef6ec1318004d636f7c13a9395607b15f2712243e696cdb20fb4e591d91b", func := "wharfage/wharfagelaw02.RealFairer", spec := "realFairer", inPlace := ["math.Float64bits", "math.Float64frombits"], named := ["internal/strconv.uint64pow10", "math/bits.deBruijn32tab", "math/bits.deBruijn64tab"], apart := false, laid := [("math/bits.deBruijn32tab", laid_math_bits_deBruijn32tab), ("math/bits.deBruijn64tab", laid_math_bits_deBruijn64tab), ("internal/strconv.uint64pow10", laid_internal_strconv_uint64pow10)] }
def RealFairerSaid : Prop := realFairerRow.holds Tryd.pinned (OpenSpec.ofChange realFairerSpec)

/-- ITS FALSE NEIGHBOUR: 'it returns false'. Refute it at one input. -/
def realFairerWrong : ChangeSpec := { name := "realFairer", fn := fun _ => fun
  | [d1, d2, d3, d4, d5] => { results := [.lit (.bool false)], args := [d1, d2, d3, d4, d5] }
  | _ => none }
def RealFairerWrongFalsely : Prop := realFairerRow.holds Tryd.pinned (OpenSpec.ofChange realFairerWrong)

/-- 'wharfagelaw02.RealTexts': WHATEVER THE INPUT: true; the input reads as it did. -/
def realTextsSpec : ChangeSpec := { name := "realTexts", fn := fun _ => fun
  | [d] => { results := [.lit (.bool true)], args := [d] }
  | _ => none }
def realTextsRow : OpenClaim := { program := "ytepnhddileadmaadoor", sum := "6d77ef6ec1318004d636f7c13a9395607b15f2712243e696cdb20fb4e591d91b", func := "wharfage/wharfagelaw02.RealTexts", spec := "realTexts", inPlace := ["math.Float64bits", "math.Float64frombits"], named := ["internal/strconv.uint64pow10", "math/bits.deBruijn32tab", "math/bits.deBruijn64tab"], apart := false, laid := [("math/bits.deBruijn32tab", laid_math_bits_deBruijn32tab), ("math/bits.deBruijn64tab", laid_math_bits_deBruijn64tab), ("internal/strconv.uint64pow10", laid_internal_strconv_uint64pow10)] }
def RealTextsSaid : Prop := realTextsRow.holds Tryd.pinned (OpenSpec.ofChange realTextsSpec)

/-- ITS FALSE NEIGHBOUR: 'it returns false'. Refute it at one input. -/
def realTextsWrong : ChangeSpec := { name := "realTexts", fn := fun _ => fun
  | [d] => { results := [.lit (.bool false)], args := [d] }
  | _ => none }
def RealTextsWrongFalsely : Prop := realTextsRow.holds Tryd.pinned (OpenSpec.ofChange realTextsWrong)

/- THE SECOND FORM. 'bulk': how many values and letters a reading holds, each counted each time it is reached (what is shared counts as often as it is met; a slice's spare places count too). A statement '..UptoSaid' is the law's where the arguments, and the package variables that the reading takes, are together of bulk at most 1048576: NARROWER than '..Said'. Prove '..Said' where nothing that the law and all that it calls make is longer than what came in: it says more and counts as full. Else prove '..UptoSaid'. A law counts once. -/
mutual
def uptoBulk {H : Type} : DataW H → Nat
  | .lit (.string bytes) => bytes.length + 1
  | .lit _ => 1
  | .nil => 1
  | .ptr d => uptoBulk d + 1
  | .slice elems spare => uptoBulkAll elems + uptoBulkAll spare + 1
  | .agg parts => uptoBulkAll parts + 1
  | .iface _ d => uptoBulk d + 1
  | .map entries => uptoBulkEntries entries + 1
  | .held _ => 1
def uptoBulkAll {H : Type} : List (DataW H) → Nat
  | [] => 0
  | d :: r => uptoBulk d + uptoBulkAll r
def uptoBulkEntries {H : Type} : List (Lit × DataW H) → Nat
  | [] => 0
  | x :: r => uptoBulkEntry x + uptoBulkEntries r
def uptoBulkEntry {H : Type} : Lit × DataW H → Nat
  | (.string bytes, d) => bytes.length + uptoBulk d + 1
  | (_, d) => uptoBulk d + 1
 end
def uptoSmall : (H : Type) → List (DataW H) → Bool := fun _ ds => decide (uptoBulkAll ds ≤ 1048576)
def OpenSpec.upto (s : _root_.Go.ChangeSpec) : _root_.Go.OpenSpec := { _root_.Go.OpenSpec.ofChange s with cond := some uptoSmall }

/-- 'wharfagelaw02.RealKinds', WHERE WHAT IT READS IS OF BULK AT MOST 1048576: true; the input reads as it did. -/
def realKindsUptoRow : OpenClaim := { program := "ytepnhddileadmaadoor", sum := "6d77ef6ec1318004d636f7c13a9395607b15f2712243e696cdb20fb4e591d91b", func := "wharfage/wharfagelaw02.RealKinds", spec := "realKinds", inPlace := ["math.Float64bits", "math.Float64frombits"], named := ["internal/strconv.uint64pow10", "math/bits.deBruijn32tab", "math/bits.deBruijn64tab"], apart := false, laid := [("math/bits.deBruijn32tab", laid_math_bits_deBruijn32tab), ("math/bits.deBruijn64tab", laid_math_bits_deBruijn64tab), ("internal/strconv.uint64pow10", laid_internal_strconv_uint64pow10)], narrowed := true }
def RealKindsUptoSaid : Prop := realKindsUptoRow.holds Tryd.pinned (OpenSpec.upto realKindsSpec)

/-- 'wharfagelaw02.RealLess', WHERE WHAT IT READS IS OF BULK AT MOST 1048576: true; the input reads as it did. -/
def realLessUptoRow : OpenClaim := { program := "ytepnhddileadmaadoor", sum := "6d77ef6ec1318004d636f7c13a9395607b15f2712243e696cdb20fb4e591d91b", func := "wharfage/wharfagelaw02.RealLess", spec := "realLess", inPlace := ["math.Float64bits", "math.Float64frombits"], named := ["internal/strconv.uint64pow10", "math/bits.deBruijn32tab", "math/bits.deBruijn64tab"], apart := false, laid := [("math/bits.deBruijn32tab", laid_math_bits_deBruijn32tab), ("math/bits.deBruijn64tab", laid_math_bits_deBruijn64tab), ("internal/strconv.uint64pow10", laid_internal_strconv_uint64pow10)], narrowed := true }
def RealLessUptoSaid : Prop := realLessUptoRow.holds Tryd.pinned (OpenSpec.upto realLessSpec)

/-- 'wharfagelaw02.RealFirsts', WHERE WHAT IT READS IS OF BULK AT MOST 1048576: true; the input reads as it did. -/
def realFirstsUptoRow : OpenClaim := { program := "ytepnhddileadmaadoor", sum := "6d77ef6ec1318004d636f7c13a9395607b15f2712243e696cdb20fb4e591d91b", func := "wharfage/wharfagelaw02.RealFirsts", spec := "realFirsts", inPlace := ["math.Float64bits", "math.Float64frombits"], named := ["internal/strconv.uint64pow10", "math/bits.deBruijn32tab", "math/bits.deBruijn64tab"], apart := false, laid := [("math/bits.deBruijn32tab", laid_math_bits_deBruijn32tab), ("math/bits.deBruijn64tab", laid_math_bits_deBruijn64tab), ("internal/strconv.uint64pow10", laid_internal_strconv_uint64pow10)], narrowed := true }
def RealFirstsUptoSaid : Prop := realFirstsUptoRow.holds Tryd.pinned (OpenSpec.upto realFirstsSpec)

/-- 'wharfagelaw02.RealRatios', WHERE WHAT IT READS IS OF BULK AT MOST 1048576: true; the input reads as it did. -/
def realRatiosUptoRow : OpenClaim := { program := "ytepnhddileadmaadoor", sum := "6d77ef6ec1318004d636f7c13a9395607b15f2712243e696cdb20fb4e591d91b", func := "wharfage/wharfagelaw02.RealRatios", spec := "realRatios", inPlace := ["math.Float64bits", "math.Float64frombits"], named := ["internal/strconv.uint64pow10", "math/bits.deBruijn32tab", "math/bits.deBruijn64tab"], apart := false, laid := [("math/bits.deBruijn32tab", laid_math_bits_deBruijn32tab), ("math/bits.deBruijn64tab", laid_math_bits_deBruijn64tab), ("internal/strconv.uint64pow10", laid_internal_strconv_uint64pow10)], narrowed := true }
def RealRatiosUptoSaid : Prop := realRatiosUptoRow.holds Tryd.pinned (OpenSpec.upto realRatiosSpec)

/-- 'wharfagelaw02.RealCools', WHERE WHAT IT READS IS OF BULK AT MOST 1048576: true; the input reads as it did. -/
def realCoolsUptoRow : OpenClaim := { program := "ytepnhddileadmaadoor", sum := "6d77ef6ec1318004d636f7c13a9395607b15f2712243e696cdb20fb4e591d91b", func := "wharfage/wharfagelaw02.RealCools", spec := "realCools", inPlace := ["math.Float64bits", "math.Float64frombits"], named := ["internal/strconv.uint64pow10", "math/bits.deBruijn32tab", "math/bits.deBruijn64tab"], apart := false, laid := [("math/bits.deBruijn32tab", laid_math_bits_deBruijn32tab), ("math/bits.deBruijn64tab", laid_math_bits_deBruijn64tab), ("internal/strconv.uint64pow10", laid_internal_strconv_uint64pow10)], narrowed := true }
def RealCoolsUptoSaid : Prop := realCoolsUptoRow.holds Tryd.pinned (OpenSpec.upto realCoolsSpec)

/-- 'wharfagelaw02.RealAccepts', WHERE WHAT IT READS IS OF BULK AT MOST 1048576: true; the input reads as it did. -/
def realAcceptsUptoRow : OpenClaim := { program := "ytepnhddileadmaadoor", sum := "6d77ef6ec1318004d636f7c13a9395607b15f2712243e696cdb20fb4e591d91b", func := "wharfage/wharfagelaw02.RealAccepts", spec := "realAccepts", inPlace := ["math.Float64bits", "math.Float64frombits"], named := ["internal/strconv.uint64pow10", "math/bits.deBruijn32tab", "math/bits.deBruijn64tab"], apart := false, laid := [("math/bits.deBruijn32tab", laid_math_bits_deBruijn32tab), ("math/bits.deBruijn64tab", laid_math_bits_deBruijn64tab), ("internal/strconv.uint64pow10", laid_internal_strconv_uint64pow10)], narrowed := true }
def RealAcceptsUptoSaid : Prop := realAcceptsUptoRow.holds Tryd.pinned (OpenSpec.upto realAcceptsSpec)

/-- 'wharfagelaw02.RealFairer', WHERE WHAT IT READS IS OF BULK AT MOST 1048576: true; the input reads as it did. -/
def realFairerUptoRow : OpenClaim := { program := "ytepnhddileadmaadoor", sum := "6d77ef6ec1318004d636f7c13a9395607b15f2712243e696cdb20fb4e591d91b", func := "wharfage/wharfagelaw02.RealFairer", spec := "realFairer", inPlace := ["math.Float64bits", "math.Float64frombits"], named := ["internal/strconv.uint64pow10", "math/bits.deBruijn32tab", "math/bits.deBruijn64tab"], apart := false, laid := [("math/bits.deBruijn32tab", laid_math_bits_deBruijn32tab), ("math/bits.deBruijn64tab", laid_math_bits_deBruijn64tab), ("internal/strconv.uint64pow10", laid_internal_strconv_uint64pow10)], narrowed := true }
def RealFairerUptoSaid : Prop := realFairerUptoRow.holds Tryd.pinned (OpenSpec.upto realFairerSpec)

/-- 'wharfagelaw02.RealTexts', WHERE WHAT IT READS IS OF BULK AT MOST 1048576: true; the input reads as it did. -/
def realTextsUptoRow : OpenClaim := { program := "ytepnhddileadmaadoor", sum := "6d77ef6ec1318004d636f7c13a9395607b15f2712243e696cdb20fb4e591d91b", func := "wharfage/wharfagelaw02.RealTexts", spec := "realTexts", inPlace := ["math.Float64bits", "math.Float64frombits"], named := ["internal/strconv.uint64pow10", "math/bits.deBruijn32tab", "math/bits.deBruijn64tab"], apart := false, laid := [("math/bits.deBruijn32tab", laid_math_bits_deBruijn32tab), ("math/bits.deBruijn64tab", laid_math_bits_deBruijn64tab), ("internal/strconv.uint64pow10", laid_internal_strconv_uint64pow10)], narrowed := true }
def RealTextsUptoSaid : Prop := realTextsUptoRow.holds Tryd.pinned (OpenSpec.upto realTextsSpec)

end Rows
end Go.Proofs.YtepnhddileadmaaDoor
