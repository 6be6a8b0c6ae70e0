/- A result by value, opened. -/
import Derived.Test.YtbenmebmfihleaaFOpen
namespace Go.Proofs.Ytbenmebmfihleaa
open Go.RowKit

theorem cellsRes : Try.prog.cellsOf 36 = 3 := by kernel_rfl
section
variable {H : Type} {enc : TypeId × Value → H} {w : World} {base : Nat} {spare : Nat → Bool} {held : Bool}
set_option maxRecDepth 100000 in
theorem res_of {r : Reach} {b0 : Nat} {v : Value} {d : DataW H} {p : List MemPlace} (hv : Value.okWide Try.prog w r b0 36 v) (h : DataW.Trod enc Try.prog w base spare held 36 v d p) :
    ∃ fa m fc c ha hm hc ys hs, v = .agg #[.slice fa m fc, .int .i64 c, .slice ha hm hc] ∧ m ≤ maxLen ∧ IsNums w.heap.size w fa m ys ∧ hm ≤ maxLen ∧ IsNums w.heap.size w ha hm hs := by
  obtain ⟨c0, c1, c2, y0, y1, y2, n, rfl, _, _, hy0, hy1, hy2⟩ := Joins.open_agg3 Try.underlying36 (by kernel_rfl) cellsRes hv h
  obtain ⟨fa, m, fc, e0⟩ := Joins.slice_form Try.underlying31 hy0
  simp only [List.cons.injEq, and_true] at e0
  subst e0
  obtain ⟨c, e1, _⟩ := DataW.trod_int Try.underlying2 hy1
  simp only [List.cons.injEq, and_true] at e1
  subst e1
  obtain ⟨ha, hm, hc, e2⟩ := Joins.slice_form Try.underlying31 hy2
  simp only [List.cons.injEq, and_true] at e2
  subst e2
  obtain ⟨h1, ys, h2⟩ := rowNums_of hy0
  obtain ⟨h3, hs, h4⟩ := rowNums_of hy2
  exact ⟨fa, m, fc, c, ha, hm, hc, ys, hs, rfl, h1, h2, h3, h4⟩
end
end Go.Proofs.Ytbenmebmfihleaa
