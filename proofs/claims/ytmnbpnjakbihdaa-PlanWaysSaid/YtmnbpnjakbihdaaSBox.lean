/- A small instance, boxed. -/
import Derived.Test.YtmnbpnjakbihdaaIMake
import Derived.Test.YtmnbpnjakbihdaaIMakeOk
namespace Go.Proofs.Ytmnbpnjakbihdaa
open Go.RowKit

variable {w wr w2 : World} {B : Nat} {A : SmA} {s : Sm}
/-- The small instance is boxed. -/
structure SBox (w wr : World) (A : SmA) (s : Sm) : Prop where
  below : Below w.heap.size w wr
  blk : wr.heap[w.heap.size]? = some (.cells (smC A s) 26 (0, 0))
theorem SBox.make (w : World) (A : SmA) (s : Sm) : SBox w (w.alloc (.cells (smC A s) 26)) A s := ⟨below1 _ _, heap_alloc_new _ _⟩
theorem SBox.later (h : SBox w wr A s) (hb : Below wr.heap.size wr w2) : SBox w w2 A s := ⟨h.below.trans (hb.mono h.below.size), (hb.block _ (Array.getElem?_eq_some_iff.1 h.blk).1).trans h.blk⟩
theorem SBox.cells (h : SBox w wr A s) : wr.cell? ⟨w.heap.size, 0, none⟩ = some (.int .u8 s.e) ∧ wr.cell? ⟨w.heap.size, 1, none⟩ = some (.int .u8 s.t) ∧ wr.cell? ⟨w.heap.size, 2, none⟩ = some (.int .u8 s.tr) ∧ wr.cell? ⟨w.heap.size, 3, none⟩ = some (.int .u8 s.b) ∧ wr.cell? ⟨w.heap.size, 4, none⟩ = some (.int .u8 s.br) ∧ wr.cell? ⟨w.heap.size, 5, none⟩ = some (.slice A.sa s.sats.length A.sc) ∧ wr.cell? ⟨w.heap.size, 6, none⟩ = some (.slice A.wa s.whos.length A.wc) ∧ wr.cell? ⟨w.heap.size, 7, none⟩ = some (.slice A.ca A.cn A.cc) ∧ wr.cell? ⟨w.heap.size, 8, none⟩ = some (.slice A.ta A.tn A.tc) ∧ wr.cell? ⟨w.heap.size, 9, none⟩ = some (.bool s.tight) ∧ wr.cell? ⟨w.heap.size, 10, none⟩ = some (.bool s.loose) := by
  simp [World.cell?, h.blk]
theorem IsSm.mono {B2 : Nat} (h : IsSm B w A s) (hb : B ≤ B2) : IsSm B2 w A s := by
  refine ⟨⟨h.sats.1, h.sats.2.1, ?_⟩, ⟨h.whos.1, h.whos.2.1, ?_⟩, h.cost.mono hb, h.time.mono hb, h.ok, h.sl, h.wl⟩
  · rcases h.sats.2.2 with h0 | ⟨b, off, e, h1, h2⟩
    · exact .inl h0
    · exact .inr ⟨b, off, e, by omega, h2⟩
  · rcases h.whos.2.2 with h0 | ⟨b, off, e, h1, h2⟩
    · exact .inl h0
    · exact .inr ⟨b, off, e, by omega, h2⟩
theorem SBox.here (h : SBox w wr A s) (hs : IsSm w.heap.size w A s) : IsSm wr.heap.size wr A s := (hs.later h.below).mono h.below.size
end Go.Proofs.Ytmnbpnjakbihdaa
