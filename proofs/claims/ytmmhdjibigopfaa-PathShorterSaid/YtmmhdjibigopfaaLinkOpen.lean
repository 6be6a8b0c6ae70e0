/- A link that came in by value; what a slice of links has behind it. -/
import Derived.Test.YtmmhdjibigopfaaGLinks
import Derived.Test.YtmmhdjibigopfaaLinkRow
import Derived.Lib.SmallJoins
namespace Go.Proofs.Ytmmhdjibigopfaa
open Go.ChangeShapes Go.WideShapes Go.ChangeAt Go.RowKit

section
variable {H : Type} {enc : TypeId × Value → H} {w : World} {base : Nat} {spare : Nat → Bool} {held : Bool}
theorem one_link {r : Reach} {b0 : Nat} {v : Value} {d : DataW H} {p : List MemPlace} (hv : Value.okWide Try.prog w r b0 50 v) (h : DataW.Trod enc Try.prog w base spare held 50 v d p) :
    ∃ mo : Ar, v = .agg #[.int .u8 mo.1, .int .u8 mo.2.1, .int .i16 mo.2.2] ∧ SmallL mo := by
  obtain ⟨c0, c1, c2, y0, y1, y2, m, rfl, _, _, g0, g1, g2⟩ := Joins.open_agg3 Try.underlying50 (by kernel_rfl) cellsLink hv h
  obtain ⟨t, ht, _, wt⟩ := DataW.trod_int Try.underlying5 g0
  obtain ⟨k, hk, _, wk⟩ := DataW.trod_int Try.underlying5 g1
  obtain ⟨i, hi, _, wi⟩ := DataW.trod_int Try.underlying48 g2
  simp only [List.cons.injEq, and_true] at ht hk hi
  subst ht hk hi
  simp [Lit.wf, IntKind.min, IntKind.max, IntKind.signed, IntKind.bits] at wt wk wi
  exact ⟨(t, k, i), rfl, by simp only [SmallL]; omega⟩
theorem links_cap {fuel : Nat} {a : Option Addr} {len cap : Nat} {x : DataW H × List MemPlace} (h : DataW.trod enc Try.prog w base spare held fuel 22 [.slice a len cap] = some x) : a = none → cap = 0 := by
  rcases Go.Deep.open_slice Try.underlying22 h with ⟨hcs, _⟩ | ⟨p, len', cap', m, n, D, Pl, hcs, _⟩
  · simp only [List.cons.injEq, Value.slice.injEq, and_true] at hcs
    exact fun _ => hcs.2.2
  · simp only [List.cons.injEq, Value.slice.injEq, and_true] at hcs
    intro e
    rw [e] at hcs
    cases hcs.1
end
end Go.Proofs.Ytmmhdjibigopfaa
