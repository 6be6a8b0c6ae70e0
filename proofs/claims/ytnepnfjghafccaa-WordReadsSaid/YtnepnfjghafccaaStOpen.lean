/- A slice of steps that came in: its cells, one by one. -/
import Derived.Test.YtnepnfjghafccaaSteps
import Derived.ProofKit
import Derived.OpenShut
import Derived.ChangeOld
import Derived.DataReads
import Derived.Deep.Slices
namespace Go.Proofs.Ytnepnfjghafccaa
open Go.ChangeShapes Go.WideShapes Go.ChangeAt Go.RowKit

theorem cellsStep : Try.prog.cellsOf 41 = 4 := by kernel_rfl
theorem cellsU8 : Try.prog.cellsOf 5 = 1 := by kernel_rfl
theorem cellsStr : Try.prog.cellsOf 9 = 1 := by kernel_rfl
theorem cellsI64' : Try.prog.cellsOf 2 = 1 := by kernel_rfl

section
variable {H : Type} {enc : TypeId × Value → H} {w : World} {base : Nat} {spare : Nat → Bool} {held : Bool}
/-- One step, of its four cells. -/
theorem step_of {fuel : Nat} {cs : List Value} {x : DataW H × List MemPlace} (h : DataW.trod enc Try.prog w base spare held fuel 41 cs = some x) : ∃ c : St, cs = [.int .u8 (c.d : Int), .string c.t, .int .i64 c.lo, .int .i64 c.hi] ∧ c.d ≤ 255 := by
  obtain ⟨xs, n, _, _, hlen, hxl, hf⟩ := DataW.trod_struct Try.underlying41 h
  rw [cellsStep] at hlen
  match cs, hlen with
  | [v0, v1, v2, v3], _ =>
    match xs, hxl with
    | [y0, y1, y2, y3], _ =>
      have g0 := hf 0 _ rfl
      have g1 := hf 1 _ rfl
      have g2 := hf 2 _ rfl
      have g3 := hf 3 _ rfl
      simp [cellsU8] at g0
      simp [cellsStr] at g1
      simp [cellsI64'] at g2
      simp [cellsI64'] at g3
      obtain ⟨d, hd, _, wd⟩ := DataW.trod_int Try.underlying5 g0
      obtain ⟨t, ht, _⟩ := DataW.trod_string Try.underlying9 g1
      obtain ⟨lo, hlo, _⟩ := DataW.trod_int Try.underlying2 g2
      obtain ⟨hi, hhi, _⟩ := DataW.trod_int Try.underlying2 g3
      simp only [List.cons.injEq, and_true] at hd ht hlo hhi
      subst hd ht hlo hhi
      simp [Lit.wf, IntKind.min, IntKind.max, IntKind.signed, IntKind.bits] at wd
      refine ⟨⟨d.toNat, t, lo, hi⟩, ?_, by simp only; omega⟩
      have : ((d.toNat : Nat) : Int) = d := by omega
      rw [this]
/-- The whole slice. -/
theorem steps_of {fuel : Nat} {a : Option Addr} {len cap : Nat} {x : DataW H × List MemPlace} (h : DataW.trod enc Try.prog w base spare held fuel 34 [.slice a len cap] = some x) :
    len ≤ maxLen ∧ ∃ l, IsSteps w a len l := by
  rcases Go.Deep.open_slice Try.underlying34 h with ⟨hcs, _⟩ | ⟨p, len', cap', m, n, D, Pl, hcs, _, hl, hm, hmm, _, hi⟩
  · simp only [List.cons.injEq, Value.slice.injEq, and_true] at hcs
    obtain ⟨rfl, rfl, rfl⟩ := hcs
    exact ⟨by unfold maxLen; omega, [], rfl, .inl rfl⟩
  · simp only [List.cons.injEq, Value.slice.injEq, and_true] at hcs
    obtain ⟨rfl, rfl, rfl⟩ := hcs
    refine ⟨by omega, ?_⟩
    have hlm : len ≤ m := by rw [hmm]; split <;> omega
    have each : ∀ i, i < len → ∃ c : St, w.cell? (p.add (i * 4)) = some (.int .u8 (c.d : Int)) ∧ w.cell? (p.add (i * 4 + 1)) = some (.string c.t) ∧ w.cell? (p.add (i * 4 + 2)) = some (.int .i64 c.lo) ∧ w.cell? (p.add (i * 4 + 3)) = some (.int .i64 c.hi) ∧ c.d ≤ 255 := fun i hil => by
      obtain ⟨cs', h1, h2⟩ := hi i (by omega)
      obtain ⟨c, rfl, hc⟩ := step_of h2
      rw [cellsStep] at h1
      obtain ⟨_, _, hat⟩ := World.cells?_some h1
      have a0 := hat 0 (by omega)
      have a1 := hat 1 (by omega)
      have a2 := hat 2 (by omega)
      have a3 := hat 3 (by omega)
      rw [Go.Deep.add_add] at a0 a1 a2 a3
      exact ⟨c, by simpa using a0, by simpa using a1, by simpa using a2, by simpa using a3, hc⟩
    obtain ⟨f, hf⟩ := Go.Deep.choose_lt each
    refine ⟨(List.range len).map f, by simp, ?_⟩
    by_cases h0 : len = 0
    · exact .inl h0
    · obtain ⟨b, off, spot⟩ := p
      have hspot : spot = none := by simpa [Addr.add] using World.cell?_spot (hf 0 (by omega)).1
      subst hspot
      have hrow : StRow w ⟨b, off, none⟩ ((List.range len).map f) := fun i c hc => by
        have hil : i < len := by have := (List.getElem?_eq_some_iff.1 hc).1; simpa using this
        simp only [List.getElem?_map, List.getElem?_range hil, Option.map_some, Option.some.injEq] at hc
        subst hc
        exact hf i hil
      exact .inr ⟨b, off, rfl, World.block_lt_of_cell? w _ (hf 0 (by omega)).1, hrow⟩
end
end Go.Proofs.Ytnepnfjghafccaa
