/- Package graph: what a graph is in memory; Has, Check. -/
import Derived.Test.YtgoegkajfhhcjaaRows
import Derived.Test.YtgoegkajfhhcjaaMod
import Derived.Laws.Rows
import Derived.Deep.Slices
import Derived.Deep.Draws
import Derived.Lib.Hide
import Derived.Deep.RegionWith
namespace Go.Proofs.Ytgoegkajfhhcjaa
open Go.RowKit

/-- An arc: from, to, weight. -/
abbrev Ar := Int × Int × Int
/-- An arc's three cells. -/
def encA (x : Ar) : List Value := [.int .i64 x.1, .int .i64 x.2.1, .int .i64 x.2.2]
/-- The arcs lie one behind another, from offset off of block b on. -/
def ArRow (w : World) (b off : Nat) (l : List Ar) : Prop := ∀ (k : Nat) (x : Ar), l[k]? = some x →
  w.cell? ⟨b, off + k * 3, none⟩ = some (.int .i64 x.1) ∧ w.cell? ⟨b, off + k * 3 + 1, none⟩ = some (.int .i64 x.2.1) ∧ w.cell? ⟨b, off + k * 3 + 2, none⟩ = some (.int .i64 x.2.2)
/-- The slice's elements are these arcs; they lay there already when the heap had B blocks. -/
def IsArcs (B : Nat) (w : World) (a : Option Addr) (len : Nat) (l : List Ar) : Prop := l.length = len ∧ (len = 0 ∨ ∃ b off, a = some ⟨b, off, none⟩ ∧ b < B ∧ ArRow w b off l)
variable {w wr w2 : World} {a : Option Addr} {len cap B B2 g : Nat} {l : List Ar} {n : Int}
theorem ArRow.of_block {b off : Nat} (h : ArRow w b off l) (e : w2.heap[b]? = w.heap[b]?) : ArRow w2 b off l := fun k x hk => by
  obtain ⟨h1, h2, h3⟩ := h k x hk
  exact ⟨(World.cell?_of_block (w := w) (by exact e)).trans h1, (World.cell?_of_block (w := w) (by exact e)).trans h2, (World.cell?_of_block (w := w) (by exact e)).trans h3⟩
theorem IsArcs.later (h : IsArcs B w a len l) (hb : Below B w w2) : IsArcs B w2 a len l := ⟨h.1, by
  rcases h.2 with h | ⟨b, off, e, h1, h2⟩
  · exact .inl h
  · exact .inr ⟨b, off, e, h1, h2.of_block (hb.block b h1)⟩⟩
theorem IsArcs.mono (h : IsArcs B w a len l) (hb : B ≤ B2) : IsArcs B2 w a len l := ⟨h.1, by
  rcases h.2 with h | ⟨b, off, e, h1, h2⟩
  · exact .inl h
  · exact .inr ⟨b, off, e, by omega, h2⟩⟩
theorem IsArcs.at_ (h : IsArcs B w a len l) {k : Nat} (hk : k < len) : ∃ b off x, a = some ⟨b, off, none⟩ ∧ b < B ∧ l[k]? = some x ∧
    w.cell? ⟨b, off + k * 3, none⟩ = some (.int .i64 x.1) ∧ w.cell? ⟨b, off + k * 3 + 1, none⟩ = some (.int .i64 x.2.1) ∧ w.cell? ⟨b, off + k * 3 + 2, none⟩ = some (.int .i64 x.2.2) := by
  obtain ⟨h1, h2⟩ := h
  subst h1
  rcases h2 with h2 | ⟨b, off, e, hb, hr⟩
  · omega
  · exact ⟨b, off, _, e, hb, List.getElem?_eq_getElem hk, hr k _ (List.getElem?_eq_getElem hk)⟩

/-- wr is w but for what is new; block g, new, holds the receiver. -/
structure Box (w wr : World) (g : Nat) (n : Int) (a : Option Addr) (len cap : Nat) : Prop where
  below : Below w.heap.size w wr
  ge : w.heap.size ≤ g
  blk : wr.heap[g]? = some (.cells #[.int .i64 n, .slice a len cap] 26 (0, 0))
theorem Box.lt (h : Box w wr g n a len cap) : g < wr.heap.size := (Array.getElem?_eq_some_iff.1 h.blk).1
theorem Box.make (h : Below w.heap.size w wr) (n : Int) (a : Option Addr) (len cap : Nat) : Box w (wr.alloc (.cells #[.int .i64 n, .slice a len cap] 26)) wr.heap.size n a len cap :=
  ⟨h.alloc h.size _, h.size, heap_alloc_new _ _⟩
theorem Box.later (h : Box w wr g n a len cap) (hb : Below wr.heap.size wr w2) : Box w w2 g n a len cap :=
  ⟨h.below.trans (hb.mono h.below.size), h.ge, (hb.block g h.lt).trans h.blk⟩
theorem Box.alloc (h : Box w wr g n a len cap) (o : Obj) : Box w (wr.alloc o) g n a len cap := ⟨h.below.alloc h.below.size o, h.ge, (Below.heap_alloc _ _ _ h.lt).trans h.blk⟩
theorem Box.drewN (h : Box w wr g n a len cap) (m : Nat) : Box w (wr.drewN m) g n a len cap := ⟨below_drewN h.below m, h.ge, h.blk⟩
theorem Box.set_ (h : Box w wr g n a len cap) {g2 : Nat} (hg : w.heap.size ≤ g2) (hne : g ≠ g2) (i : Nat) (v : Value) : Box w (wr.setCell ⟨g2, i, none⟩ v) g n a len cap :=
  ⟨h.below.setCell hg _, h.ge, by rw [heap_setCell_other _ _ _ _ hne]; exact h.blk⟩
theorem Box.c0 (h : Box w wr g n a len cap) : wr.cell? ⟨g, 0, none⟩ = some (.int .i64 n) := by simp [World.cell?, h.blk]
theorem Box.c1 (h : Box w wr g n a len cap) : wr.cell? ⟨g, 1, none⟩ = some (.slice a len cap) := by simp [World.cell?, h.blk]
theorem Box.arcs (h : Box w wr g n a len cap) (hl : IsArcs w.heap.size w a len l) : IsArcs w.heap.size wr a len l := hl.later h.below
/-- The arcs of the world of a call made here. -/
theorem Box.arcsHere (h : Box w wr g n a len cap) (hl : IsArcs w.heap.size w a len l) : IsArcs wr.heap.size wr a len l := (hl.later h.below).mono h.below.size

/-! ### Has -/
/-- Is there such a node? -/
def hasB (n i : Int) : Bool := decide (0 ≤ i ∧ i < n)
theorem hasB_true {n i : Int} : hasB n i = true ↔ 0 ≤ i ∧ i < n := by simp [hasB]
theorem hasB_false {n i : Int} : hasB n i = false ↔ ¬ (0 ≤ i ∧ i < n) := by simp [hasB]
theorem ret_bool {p q : Bool} (h : p = q) : Ending.returned (.bool p) = .returned (.bool q) := by rw [h]

theorem has_any (n i : Int) (a : Option Addr) (len cap : Nat) (w : World) :
    Calls Try.prog 28 #[.agg #[.int .i64 n, .slice a len cap], .int .i64 i] w fun e w' => e = .returned (.bool (hasB n i)) ∧ Below w.heap.size w w' := by
  by_cases h1 : 0 ≤ i
  · by_cases h2 : i < n
    · go_enter Try.func28, Try.ntmps28
      go_wp2_with fail
      go_ret
      exact ⟨ret_bool (hasB_true.2 ⟨h1, h2⟩).symm, (Below.refl _ _).alloc (Nat.le_refl _) _⟩
    · go_enter Try.func28, Try.ntmps28
      go_wp2_with fail
      go_ret
      exact ⟨ret_bool (hasB_false.2 (by omega)).symm, (Below.refl _ _).alloc (Nat.le_refl _) _⟩
  · go_enter Try.func28, Try.ntmps28
    go_wp2_with fail
    go_ret
    exact ⟨ret_bool (hasB_false.2 (by omega)).symm, (Below.refl _ _).alloc (Nat.le_refl _) _⟩
theorem has_yes {n i : Int} (h : 0 ≤ i ∧ i < n) (a : Option Addr) (len cap : Nat) (w : World) :
    Calls Try.prog 28 #[.agg #[.int .i64 n, .slice a len cap], .int .i64 i] w fun e w' => e = .returned (.bool true) ∧ Below w.heap.size w w' := by
  have := has_any n i a len cap w
  rw [hasB_true.2 h] at this
  exact this
theorem has_no {n i : Int} (h : ¬ (0 ≤ i ∧ i < n)) (a : Option Addr) (len cap : Nat) (w : World) :
    Calls Try.prog 28 #[.agg #[.int .i64 n, .slice a len cap], .int .i64 i] w fun e w' => e = .returned (.bool false) ∧ Below w.heap.size w w' := by
  have := has_any n i a len cap w
  rw [hasB_false.2 h] at this
  exact this
end Go.Proofs.Ytgoegkajfhhcjaa
