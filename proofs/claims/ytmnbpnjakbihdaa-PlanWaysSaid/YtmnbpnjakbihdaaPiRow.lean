/- Rows of four numbers each, rows of numbers, as they came in. -/
import Derived.Test.YtmnbpnjakbihdaaOwn
import Derived.Test.YtmnbpnjakbihdaaLongRow
import Derived.Laws.Rows
import Derived.Deep.Slices
import Derived.Deep.Draws
import Derived.Lib.Hide
import Derived.Deep.RegionWith
namespace Go.Proofs.Ytmnbpnjakbihdaa
open Go.RowKit

/-- A pipe: from, to, room, cost. -/
abbrev Pi := Int × Int × Int × Int
def encP (x : Pi) : List Value := [.int .i64 x.1, .int .i64 x.2.1, .int .i64 x.2.2.1, .int .i64 x.2.2.2]
/-- The pipes lie one behind another, from offset off of block b on. -/
def PiRow (w : World) (b off : Nat) (l : List Pi) : Prop := ∀ (k : Nat) (x : Pi), l[k]? = some x →
  w.cell? ⟨b, off + k * 4, none⟩ = some (.int .i64 x.1) ∧ w.cell? ⟨b, off + k * 4 + 1, none⟩ = some (.int .i64 x.2.1) ∧ w.cell? ⟨b, off + k * 4 + 2, none⟩ = some (.int .i64 x.2.2.1) ∧ w.cell? ⟨b, off + k * 4 + 3, none⟩ = some (.int .i64 x.2.2.2)
/-- The slice's elements are these pipes; they lay there already when the heap had B blocks. -/
def IsPipes (B : Nat) (w : World) (a : Option Addr) (len : Nat) (l : List Pi) : Prop := l.length = len ∧ (len = 0 ∨ ∃ b off, a = some ⟨b, off, none⟩ ∧ b < B ∧ PiRow w b off l)
/-- The slice's elements are these numbers; they lay there already when the heap had B blocks. -/
def IsNums (B : Nat) (w : World) (a : Option Addr) (len : Nat) (ws : List Int) : Prop := ws.length = len ∧ (len = 0 ∨ ∃ b off, a = some ⟨b, off, none⟩ ∧ b < B ∧ ∀ (j : Nat) (x : Int), ws[j]? = some x → w.cell? ⟨b, off + j, none⟩ = some (.int .i64 x))
variable {w wr w2 : World} {a : Option Addr} {len cap B B2 g k : Nat} {l : List Pi} {n : Int} {ws : List Int}
theorem PiRow.of_block {b off : Nat} (h : PiRow w b off l) (e : w2.heap[b]? = w.heap[b]?) : PiRow w2 b off l := fun k x hk => by
  obtain ⟨h1, h2, h3, h4⟩ := h k x hk
  exact ⟨(World.cell?_of_block (w := w) (by exact e)).trans h1, (World.cell?_of_block (w := w) (by exact e)).trans h2, (World.cell?_of_block (w := w) (by exact e)).trans h3, (World.cell?_of_block (w := w) (by exact e)).trans h4⟩
theorem IsPipes.later (h : IsPipes B w a len l) (hb : Below B w w2) : IsPipes B w2 a len l := ⟨h.1, by
  rcases h.2 with h | ⟨b, off, e, h1, h2⟩
  · exact .inl h
  · exact .inr ⟨b, off, e, h1, h2.of_block (hb.block b h1)⟩⟩
theorem IsPipes.mono (h : IsPipes B w a len l) (hb : B ≤ B2) : IsPipes B2 w a len l := ⟨h.1, by
  rcases h.2 with h | ⟨b, off, e, h1, h2⟩
  · exact .inl h
  · exact .inr ⟨b, off, e, by omega, h2⟩⟩
theorem IsPipes.at_ (h : IsPipes B w a len l) (hk : k < len) : ∃ b off x, a = some ⟨b, off, none⟩ ∧ b < B ∧ l[k]? = some x ∧
    w.cell? ⟨b, off + k * 4, none⟩ = some (.int .i64 x.1) ∧ w.cell? ⟨b, off + k * 4 + 1, none⟩ = some (.int .i64 x.2.1) ∧ w.cell? ⟨b, off + k * 4 + 2, none⟩ = some (.int .i64 x.2.2.1) ∧ w.cell? ⟨b, off + k * 4 + 3, none⟩ = some (.int .i64 x.2.2.2) := by
  obtain ⟨h1, h2⟩ := h
  subst h1
  rcases h2 with h2 | ⟨b, off, e, hb, hr⟩
  · omega
  · exact ⟨b, off, _, e, hb, List.getElem?_eq_getElem hk, hr k _ (List.getElem?_eq_getElem hk)⟩
theorem IsNums.later (h : IsNums B w a len ws) (hb : Below B w w2) : IsNums B w2 a len ws := ⟨h.1, by
  rcases h.2 with h | ⟨b, off, e, h1, h2⟩
  · exact .inl h
  · exact .inr ⟨b, off, e, h1, fun j x hx => (hb.cell (p := ⟨b, off + j, none⟩) h1).trans (h2 j x hx)⟩⟩
theorem IsNums.mono (h : IsNums B w a len ws) (hb : B ≤ B2) : IsNums B2 w a len ws := ⟨h.1, by
  rcases h.2 with h | ⟨b, off, e, h1, h2⟩
  · exact .inl h
  · exact .inr ⟨b, off, e, by omega, h2⟩⟩
theorem IsNums.at_ (h : IsNums B w a len ws) (hk : k < len) : ∃ b off x, a = some ⟨b, off, none⟩ ∧ ws[k]? = some x ∧ w.cell? ⟨b, off + k, none⟩ = some (.int .i64 x) := by
  obtain ⟨h1, h2⟩ := h
  subst h1
  rcases h2 with h2 | ⟨b, off, e, hb, hr⟩
  · omega
  · exact ⟨b, off, _, e, List.getElem?_eq_getElem hk, hr k _ (List.getElem?_eq_getElem hk)⟩
end Go.Proofs.Ytmnbpnjakbihdaa
