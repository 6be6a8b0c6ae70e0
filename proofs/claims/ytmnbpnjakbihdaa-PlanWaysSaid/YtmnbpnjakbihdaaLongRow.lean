/- Rows of numbers (int64) of the call's own, by the index. -/
import Derived.Test.YtmnbpnjakbihdaaOwn
import Derived.Lib.Hide
import Derived.Deep.AppendLies
import Derived.Lib.LazyBuf
namespace Go.Proofs.Ytmnbpnjakbihdaa
open Go.RowKit

def rowF (N : Nat) (f : Nat → Int) : List Value := (List.range N).map (fun i => .int .i64 (f i))
variable {w w2 wr w4 : World} {base N g cap i k : Nat} {f f2 : Nat → Int} {v : Value} {u : Int}
theorem rowF_length (N : Nat) (f : Nat → Int) : (rowF N f).length = N := by simp [rowF]
theorem rowF_get (f : Nat → Int) (h : i < N) : (rowF N f)[i]? = some (.int .i64 (f i)) := by simp [rowF, h]
theorem rowF_congr (h : ∀ i, i < N → f i = f2 i) : rowF N f = rowF N f2 := by
  unfold rowF
  apply List.map_congr_left
  intro i hi
  rw [h i (List.mem_range.1 hi)]
theorem rowF_set (h : k < N) : (rowF N f).set k (.int .i64 u) = rowF N (fun t => if t = k then u else f t) := by
  apply List.ext_getElem?
  intro j
  rw [List.getElem?_set]
  by_cases hj : j < N
  · rw [rowF_get _ hj]
    by_cases e : k = j
    · subst e
      rw [if_pos rfl, if_pos (by rw [rowF_length]; exact h), rowF_get _ h]
      simp
    · simp only [e, if_false]
      rw [rowF_get _ hj, if_neg (fun h => e h.symm)]
  · rw [List.getElem?_eq_none (by rw [rowF_length]; omega), if_neg (by omega), List.getElem?_eq_none (by rw [rowF_length]; omega)]
/-- The slice v is a row of the call's own, from block base on, of these N numbers. -/
def LongRow (w : World) (base : Nat) (v : Value) (N : Nat) (f : Nat → Int) : Prop := w.ownsRow base 2 1 v N (rowF N f)
theorem LongRow.cell (h : LongRow w base (.slice (some ⟨g, 0, none⟩) N cap) N f) (hi : i < N) : w.cell? ⟨g, i, none⟩ = some (.int .i64 (f i)) := by
  rw [World.ownsRow.cellAt h i (by omega)]
  exact rowF_get _ hi
theorem LongRow.frozen (h : LongRow w base (.slice (some ⟨g, 0, none⟩) N cap) N f) (i : Nat) : w.frozen? ⟨g, i, none⟩ = false := World.ownsRow.frozenAt h i
theorem LongRow.set_ (h : LongRow w base (.slice (some ⟨g, 0, none⟩) N cap) N f) (hk : k < N) (u : Int) : LongRow (w.setCell ⟨g, k, none⟩ (.int .i64 u)) base (.slice (some ⟨g, 0, none⟩) N cap) N (fun t => if t = k then u else f t) := by
  have := (World.ownsRow.stored h k (.int .i64 u)).1
  rw [rowF_set hk] at this
  exact this
theorem LongRow.congr (h : LongRow w base v N f) (e : ∀ i, i < N → f i = f2 i) : LongRow w base v N f2 := by
  unfold LongRow
  rw [← rowF_congr e]
  exact h
theorem LongRow.below (h : LongRow w base v N f) (hb : Below w.heap.size w w2) : LongRow w2 base v N f := owns_below h hb
theorem LongRow.kept {S : Nat → Prop} (h : LongRow w base v N f) (hm : Mod S w w2) (hs : ∀ k, v.ownBlock = some k → ¬ S k) : LongRow w2 base v N f := owns_kept h hm hs
theorem LongRow.rebase {base' : Nat} (h : LongRow w base v N f) (hb : base' ≤ base) : LongRow w base' v N f := owns_rebase h hb
theorem LongRow.some_ (h : LongRow w base v N f) (h0 : 0 < N) : ∃ g cap, v = .slice (some ⟨g, 0, none⟩) N cap ∧ base ≤ g ∧ g < w.heap.size ∧ N ≤ cap ∧ cap ≤ maxLen := owns_some h h0
theorem LongRow.cap_ {a : Option Addr} (h : LongRow w base (.slice a N cap) N f) (h0 : 0 < N) : N ≤ cap ∧ cap ≤ maxLen := by
  obtain ⟨_, _, e, _, _, h1, h2⟩ := h.some_ h0
  simp only [Value.slice.injEq] at e
  obtain ⟨_, _, rfl⟩ := e
  exact ⟨h1, h2⟩
theorem LongRow.base_ (h : LongRow w base (.slice (some ⟨g, 0, none⟩) N cap) N f) : base ≤ g ∧ g < w.heap.size := World.ownsRow.lt h g rfl
theorem infoLong : (Try.prog.info? 2).map (fun i => (i.zero, i.size, i.bytes)) = some (some (.int .i64 0), 1, 8) := by kernel_rfl
theorem oneF (N : Nat) (f : Nat → Int) : ∀ u ∈ rowF N f, u.oneCell' = true := by
  intro u hu
  simp only [rowF, List.mem_map] at hu
  obtain ⟨i, _, rfl⟩ := hu
  rfl
end Go.Proofs.Ytmnbpnjakbihdaa
