/- Pipes: what a net is in memory; what package flow is to tell of it. -/
import Derived.Test.YtifhapmblofmkaaOwn
import Derived.Test.YtifhapmblofmkaaLongRow
import Derived.Laws.Rows
import Derived.Deep.Slices
import Derived.Deep.Draws
import Derived.Lib.Hide
import Derived.Deep.RegionWith
namespace Go.Proofs.Ytifhapmblofmkaa
open Go.RowKit

/-- A pipe: from, to, room, cost. -/
abbrev Pi := Int × Int × Int × Int
def encP (x : Pi) : List Value := [.int .i64 x.1, .int .i64 x.2.1, .int .i64 x.2.2.1, .int .i64 x.2.2.2]
/-- The pipes lie one behind another, from offset off of block b on. -/
def PiRow (w : World) (b off : Nat) (l : List Pi) : Prop := ∀ (k : Nat) (x : Pi), l[k]? = some x →
  w.cell? ⟨b, off + k * 4, none⟩ = some (.int .i64 x.1) ∧ w.cell? ⟨b, off + k * 4 + 1, none⟩ = some (.int .i64 x.2.1) ∧ w.cell? ⟨b, off + k * 4 + 2, none⟩ = some (.int .i64 x.2.2.1) ∧ w.cell? ⟨b, off + k * 4 + 3, none⟩ = some (.int .i64 x.2.2.2)
/-- The slice's elements are these pipes; they lay there already when the heap had B blocks. -/
def IsPipes (B : Nat) (w : World) (a : Option Addr) (len : Nat) (l : List Pi) : Prop := l.length = len ∧ (len = 0 ∨ ∃ b off, a = some ⟨b, off, none⟩ ∧ b < B ∧ PiRow w b off l)
/-- The slice's elements are these numbers; they lay there already when the heap had B blocks. -/
def IsNums (B : Nat) (w : World) (a : Option Addr) (len : Nat) (ws : List Int) : Prop := ws.length = len ∧ (len = 0 ∨ ∃ b off, a = some ⟨b, off, none⟩ ∧ b < B ∧ ∀ (j : Nat) (x : Int), ws[j]? = some x → w.cell? ⟨b, off + j, none⟩ = some (.int .i64 x))
variable {w wr w2 : World} {a : Option Addr} {len cap B B2 g k : Nat} {l : List Pi} {n : Int} {ws : List Int}
theorem PiRow.of_block {b off : Nat} (h : PiRow w b off l) (e : w2.heap[b]? = w.heap[b]?) : PiRow w2 b off l := fun k x hk => by
  obtain ⟨h1, h2, h3, h4⟩ := h k x hk
  exact ⟨(World.cell?_of_block (w := w) (by exact e)).trans h1, (World.cell?_of_block (w := w) (by exact e)).trans h2, (World.cell?_of_block (w := w) (by exact e)).trans h3, (World.cell?_of_block (w := w) (by exact e)).trans h4⟩
theorem IsPipes.later (h : IsPipes B w a len l) (hb : Below B w w2) : IsPipes B w2 a len l := ⟨h.1, by
  rcases h.2 with h | ⟨b, off, e, h1, h2⟩
  · exact .inl h
  · exact .inr ⟨b, off, e, h1, h2.of_block (hb.block b h1)⟩⟩
theorem IsPipes.mono (h : IsPipes B w a len l) (hb : B ≤ B2) : IsPipes B2 w a len l := ⟨h.1, by
  rcases h.2 with h | ⟨b, off, e, h1, h2⟩
  · exact .inl h
  · exact .inr ⟨b, off, e, by omega, h2⟩⟩
theorem IsPipes.at_ (h : IsPipes B w a len l) (hk : k < len) : ∃ b off x, a = some ⟨b, off, none⟩ ∧ b < B ∧ l[k]? = some x ∧
    w.cell? ⟨b, off + k * 4, none⟩ = some (.int .i64 x.1) ∧ w.cell? ⟨b, off + k * 4 + 1, none⟩ = some (.int .i64 x.2.1) ∧ w.cell? ⟨b, off + k * 4 + 2, none⟩ = some (.int .i64 x.2.2.1) ∧ w.cell? ⟨b, off + k * 4 + 3, none⟩ = some (.int .i64 x.2.2.2) := by
  obtain ⟨h1, h2⟩ := h
  subst h1
  rcases h2 with h2 | ⟨b, off, e, hb, hr⟩
  · omega
  · exact ⟨b, off, _, e, hb, List.getElem?_eq_getElem hk, hr k _ (List.getElem?_eq_getElem hk)⟩
theorem IsNums.later (h : IsNums B w a len ws) (hb : Below B w w2) : IsNums B w2 a len ws := ⟨h.1, by
  rcases h.2 with h | ⟨b, off, e, h1, h2⟩
  · exact .inl h
  · exact .inr ⟨b, off, e, h1, fun j x hx => (hb.cell (p := ⟨b, off + j, none⟩) h1).trans (h2 j x hx)⟩⟩
theorem IsNums.mono (h : IsNums B w a len ws) (hb : B ≤ B2) : IsNums B2 w a len ws := ⟨h.1, by
  rcases h.2 with h | ⟨b, off, e, h1, h2⟩
  · exact .inl h
  · exact .inr ⟨b, off, e, by omega, h2⟩⟩
theorem IsNums.at_ (h : IsNums B w a len ws) (hk : k < len) : ∃ b off x, a = some ⟨b, off, none⟩ ∧ ws[k]? = some x ∧ w.cell? ⟨b, off + k, none⟩ = some (.int .i64 x) := by
  obtain ⟨h1, h2⟩ := h
  subst h1
  rcases h2 with h2 | ⟨b, off, e, hb, hr⟩
  · omega
  · exact ⟨b, off, _, e, List.getElem?_eq_getElem hk, hr k _ (List.getElem?_eq_getElem hk)⟩

/-- wr is w but for what is new; block g, new, holds the net. -/
structure NBox (w wr : World) (g : Nat) (n : Int) (a : Option Addr) (len cap : Nat) : Prop where
  below : Below w.heap.size w wr
  ge : w.heap.size ≤ g
  blk : wr.heap[g]? = some (.cells #[.int .i64 n, .slice a len cap] 26 (0, 0))
theorem NBox.lt (h : NBox w wr g n a len cap) : g < wr.heap.size := (Array.getElem?_eq_some_iff.1 h.blk).1
theorem NBox.make (h : Below w.heap.size w wr) (n : Int) (a : Option Addr) (len cap : Nat) : NBox w (wr.alloc (.cells #[.int .i64 n, .slice a len cap] 26)) wr.heap.size n a len cap :=
  ⟨h.alloc h.size _, h.size, heap_alloc_new _ _⟩
theorem NBox.later (h : NBox w wr g n a len cap) (hb : Below wr.heap.size wr w2) : NBox w w2 g n a len cap :=
  ⟨h.below.trans (hb.mono h.below.size), h.ge, (hb.block g h.lt).trans h.blk⟩
theorem NBox.alloc (h : NBox w wr g n a len cap) (o : Obj) : NBox w (wr.alloc o) g n a len cap := ⟨h.below.alloc h.below.size o, h.ge, (Below.heap_alloc _ _ _ h.lt).trans h.blk⟩
theorem NBox.kept {S : Nat → Prop} (h : NBox w wr g n a len cap) (hm : Mod S wr w2) (hS : ∀ k, S k → w.heap.size ≤ k) (hg : ¬ S g) : NBox w w2 g n a len cap :=
  ⟨((Mod.of_below S h.below).trans hm).below (Nat.le_refl _) hS, h.ge, (hm.block g h.lt hg).trans h.blk⟩
theorem NBox.c0 (h : NBox w wr g n a len cap) : wr.cell? ⟨g, 0, none⟩ = some (.int .i64 n) := by simp [World.cell?, h.blk]
theorem NBox.c1 (h : NBox w wr g n a len cap) : wr.cell? ⟨g, 1, none⟩ = some (.slice a len cap) := by simp [World.cell?, h.blk]
theorem NBox.pipes (h : NBox w wr g n a len cap) (hl : IsPipes w.heap.size w a len l) : IsPipes w.heap.size wr a len l := hl.later h.below
theorem NBox.pipesHere (h : NBox w wr g n a len cap) (hl : IsPipes w.heap.size w a len l) : IsPipes wr.heap.size wr a len l := (hl.later h.below).mono h.below.size

/-! ### What Check and Ends answer -/
/-- Is there such a node? -/
def isIn (n i : Int) : Bool := decide (0 ≤ i ∧ i < n)
/-- May this pipe be, of n nodes? -/
def okP (n : Int) (x : Pi) : Bool := isIn n x.1 && isIn n x.2.1 && decide (0 ≤ x.2.2.1 ∧ x.2.2.1 ≤ 1099511627776) && decide (-1099511627776 ≤ x.2.2.2 ∧ x.2.2.2 ≤ 1099511627776)
theorem okP_true {x : Pi} : okP n x = true ↔ (0 ≤ x.1 ∧ x.1 < n) ∧ (0 ≤ x.2.1 ∧ x.2.1 < n) ∧ (0 ≤ x.2.2.1 ∧ x.2.2.1 ≤ 1099511627776) ∧ -1099511627776 ≤ x.2.2.2 ∧ x.2.2.2 ≤ 1099511627776 := by
  simp [okP, isIn, and_assoc]
def checkP (n : Int) (l : List Pi) : Int := if n < 0 ∨ 1000 < n ∨ 20000 < l.length then 4 else if l.all (okP n) then 0 else 2
def endsP (n : Int) (l : List Pi) (s t : Int) : Int := if checkP n l ≠ 0 then checkP n l else if isIn n s = true ∧ isIn n t = true ∧ s ≠ t then 0 else 2
theorem checkP_zero : checkP n l = 0 ↔ (0 ≤ n ∧ n ≤ 1000 ∧ l.length ≤ 20000) ∧ ∀ x ∈ l, okP n x = true := by
  unfold checkP
  by_cases h : n < 0 ∨ 1000 < n ∨ 20000 < l.length
  · rw [if_pos h]
    constructor
    · intro h; cases h
    · intro h2; omega
  · rw [if_neg h]
    by_cases h2 : l.all (okP n) = true
    · rw [if_pos h2]
      exact ⟨fun _ => ⟨by omega, List.all_eq_true.1 h2⟩, fun _ => rfl⟩
    · rw [if_neg h2]
      constructor
      · intro h; cases h
      · intro h3; exact absurd (List.all_eq_true.2 h3.2) h2
theorem endsP_zero {s t : Int} : endsP n l s t = 0 ↔ checkP n l = 0 ∧ (0 ≤ s ∧ s < n) ∧ (0 ≤ t ∧ t < n) ∧ s ≠ t := by
  unfold endsP
  by_cases h : checkP n l = 0
  · rw [if_neg (by simp [h])]
    by_cases h2 : isIn n s = true ∧ isIn n t = true ∧ s ≠ t
    · rw [if_pos h2]
      simp [isIn] at h2
      exact ⟨fun _ => ⟨h, h2.1, h2.2.1, h2.2.2⟩, fun _ => rfl⟩
    · rw [if_neg h2]
      simp [isIn] at h2
      constructor
      · intro h; cases h
      · intro h3; exact absurd h3.2.2.2 (fun e => e (h2 h3.2.1.1 h3.2.1.2 h3.2.2.1.1 h3.2.2.1.2))
  · rw [if_pos h]
    exact ⟨fun e => absurd e h, fun e => absurd e.1 h⟩
end Go.Proofs.Ytifhapmblofmkaa
