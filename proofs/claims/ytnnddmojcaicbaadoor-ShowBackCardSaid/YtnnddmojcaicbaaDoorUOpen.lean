/- A slice of uint32 that came in. -/
import Derived.Test.YtnnddmojcaicbaaDoorIOpen
import Derived.Test.YtnnddmojcaicbaaDoorBackT
namespace Go.Proofs.YtnnddmojcaicbaaDoor
open Go.ChangeShapes Go.WideShapes Go.ChangeAt Go.RowKit

variable {H : Type} {enc : TypeId × Value → H} {w : World} {base : Nat} {spare : Nat → Bool} {held : Bool}
theorem cellsU32 : Tryd.prog.cellsOf 43 = 1 := by kernel_rfl
set_option maxRecDepth 100000 in
theorem u32s_of {fuel : Nat} {a : Option Addr} {len cap : Nat} {x : DataW H × List MemPlace} (h : DataW.trod enc Tryd.prog w base spare held fuel 42 [.slice a len cap] = some x) :
    len ≤ maxLen ∧ ∃ xs, IsU32 w.heap.size w a len xs := by
  rcases Go.Deep.open_slice Tryd.underlying42 h with ⟨hcs, _⟩ | ⟨p, len', cap', m, n, D, Pl, hcs, _, hl, hm, hmm, _, hi⟩
  · simp only [List.cons.injEq, Value.slice.injEq, and_true] at hcs
    obtain ⟨rfl, rfl, rfl⟩ := hcs
    exact ⟨by unfold maxLen; omega, [], rfl, fun x hx => (by simp at hx), .inl rfl⟩
  · simp only [List.cons.injEq, Value.slice.injEq, and_true] at hcs
    obtain ⟨rfl, rfl, rfl⟩ := hcs
    refine ⟨by omega, ?_⟩
    have hlm : len ≤ m := by rw [hmm]; split <;> omega
    have each : ∀ i, i < len → ∃ c : Int, w.cell? (p.add i) = some (.int .u32 c) ∧ (0 ≤ c ∧ c ≤ 4294967295) := fun i hil => by
      obtain ⟨cs', h1, h2⟩ := hi i (by omega)
      obtain ⟨c, rfl, _, wc⟩ := DataW.trod_int Tryd.underlying43 h2
      rw [cellsU32] at h1
      obtain ⟨_, _, hat⟩ := World.cells?_some h1
      have a0 := hat 0 (by omega)
      rw [Go.Deep.add_add] at a0
      simp [Lit.wf, IntKind.min, IntKind.max, IntKind.signed, IntKind.bits] at wc
      exact ⟨c, by simpa using a0, wc⟩
    obtain ⟨f, hf⟩ := Go.Deep.choose_lt each
    refine ⟨(List.range len).map f, by simp, fun x hx => (by simp only [List.mem_map, List.mem_range] at hx; obtain ⟨i, hi2, rfl⟩ := hx; exact (hf i hi2).2), ?_⟩
    by_cases h0 : len = 0
    · exact .inl h0
    · obtain ⟨b, off, spot⟩ := p
      have hspot : spot = none := by simpa [Addr.add] using World.cell?_spot (hf 0 (by omega)).1
      subst hspot
      refine .inr ⟨b, off, rfl, World.block_lt_of_cell? w _ (hf 0 (by omega)).1, fun i c hc => ?_⟩
      have hil : i < len := by have := (List.getElem?_eq_some_iff.1 hc).1; simpa using this
      simp only [List.getElem?_map, List.getElem?_range hil, Option.map_some, Option.some.injEq] at hc
      subst hc
      have := (hf i hil).1
      simp only [Addr.add_lit] at this
      exact this
end Go.Proofs.YtnnddmojcaicbaaDoor
