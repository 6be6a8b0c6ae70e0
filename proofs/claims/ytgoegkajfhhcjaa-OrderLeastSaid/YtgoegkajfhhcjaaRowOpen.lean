/- Slices of numbers that came in: of 32 bits, of 64. -/
import Derived.Test.YtgoegkajfhhcjaaOrderLates
import Derived.ProofKit
import Derived.OpenShut
import Derived.ChangeOld
import Derived.DataReads
namespace Go.Proofs.Ytgoegkajfhhcjaa
open Go.ChangeShapes Go.WideShapes Go.ChangeAt Go.RowKit

section
variable {H : Type} {enc : TypeId × Value → H} {w : World} {base : Nat} {spare : Nat → Bool} {held : Bool}
theorem row_of {t e : TypeId} {k : IntKind} {fuel : Nat} {a : Option Addr} {len cap : Nat} {x : DataW H × List MemPlace} (ht : Try.prog.underlying t = some (.slice e)) (he : Try.prog.underlying e = some (.int k)) (hc : Try.prog.cellsOf e = 1)
    (h : DataW.trod enc Try.prog w base spare held fuel t [.slice a len cap] = some x) :
    len ≤ maxLen ∧ ∃ xs : List Int, xs.length = len ∧ (len = 0 ∨ ∃ b off, a = some ⟨b, off, none⟩ ∧ b < w.heap.size ∧ ∀ (j : Nat) (z : Int), xs[j]? = some z → w.cell? ⟨b, off + j, none⟩ = some (.int k z) ∧ (Lit.int k z).wf = true) := by
  rcases open_ints ht he hc h with ⟨hcs, _⟩ | ⟨p, l, c, zs, hcs, _, hl, hm, hz, _, hcell, hwz⟩
  · simp only [List.cons.injEq, Value.slice.injEq, and_true] at hcs
    obtain ⟨rfl, rfl, rfl⟩ := hcs
    exact ⟨Nat.zero_le _, [], rfl, .inl rfl⟩
  · simp only [List.cons.injEq, Value.slice.injEq, and_true] at hcs
    obtain ⟨rfl, rfl, rfl⟩ := hcs
    have hzl : len ≤ zs.length := by rw [hz]; split <;> omega
    refine ⟨Nat.le_trans hl hm, zs.take len, by rw [List.length_take]; omega, ?_⟩
    by_cases h0 : len = 0
    · exact .inl h0
    · obtain ⟨b, off, spot⟩ := p
      have hc0 := hcell 0 (by omega)
      have hspot : spot = none := by simpa [Addr.add] using World.cell?_spot hc0
      subst hspot
      refine .inr ⟨b, off, rfl, World.block_lt_of_cell? w _ hc0, fun j z hj => ?_⟩
      rw [List.getElem?_take] at hj
      by_cases hjl : j < len
      · rw [if_pos hjl] at hj
        have h1 := hcell j (by omega)
        rw [Addr.add_lit] at h1
        have h2 : zs.getD j 0 = z := by simp [List.getD, hj]
        rw [h2] at h1
        exact ⟨h1, hwz z (List.mem_of_getElem? hj)⟩
      · rw [if_neg hjl] at hj; cases hj
theorem i32s_of {fuel : Nat} {a : Option Addr} {len cap : Nat} {x : DataW H × List MemPlace} (h : DataW.trod enc Try.prog w base spare held fuel 38 [.slice a len cap] = some x) :
    len ≤ maxLen ∧ ∃ xs, IsI32 w.heap.size w a len xs := by
  obtain ⟨h1, xs, h2, h3⟩ := row_of Try.underlying38 Try.underlying21 (by kernel_rfl) h
  refine ⟨h1, xs, h2, ?_⟩
  rcases h3 with h3 | ⟨b, off, e, hb, hr⟩
  · exact .inl h3
  · refine .inr ⟨b, off, e, hb, fun j z hj => ?_⟩
    obtain ⟨g1, g2⟩ := hr j z hj
    simp [Lit.wf, IntKind.min, IntKind.max, IntKind.signed, IntKind.bits] at g2
    exact ⟨g1, by omega, by omega⟩
theorem i64s_of {fuel : Nat} {a : Option Addr} {len cap : Nat} {x : DataW H × List MemPlace} (h : DataW.trod enc Try.prog w base spare held fuel 39 [.slice a len cap] = some x) :
    len ≤ maxLen ∧ ∃ xs, IsInts w.heap.size w a len xs := by
  obtain ⟨h1, xs, h2, h3⟩ := row_of Try.underlying39 Try.underlying2 (by kernel_rfl) h
  refine ⟨h1, xs, h2, ?_⟩
  rcases h3 with h3 | ⟨b, off, e, hb, hr⟩
  · exact .inl h3
  · exact .inr ⟨b, off, e, hb, fun j z hj => (hr j z hj).1⟩
end
end Go.Proofs.Ytgoegkajfhhcjaa
