/- Rows of words in memory. -/
import Derived.Test.YtoafmbjdchkahaaRows
import Derived.Test.YtoafmbjdchkahaaMod
import Derived.Test.YtoafmbjdchkahaaWords
namespace Go.Proofs.Ytoafmbjdchkahaa
open Go.RowKit

abbrev W := List UInt8 × Nat
def strV (t : List UInt8) : Value := .string ⟨t.toArray⟩
/-- A word's two cells. -/
def encW (x : W) : List Value := [.string ⟨x.1.toArray⟩, .int .i64 (x.2 : Int)]
def flatW (l : List W) : List Value := l.flatMap encW
theorem flatW_length (l : List W) : (flatW l).length = l.length * 2 := by
  induction l with
  | nil => rfl
  | cons x r ih => unfold flatW at ih ⊢; rw [List.flatMap_cons, List.length_append, ih, List.length_cons]; show 2 + _ = _; omega
theorem flatW_snoc (l : List W) (x : W) : flatW (l ++ [x]) = flatW l ++ encW x := by simp [flatW]
theorem flatW_get : ∀ (l : List W) (k : Nat) (x : W), l[k]? = some x → (flatW l)[k * 2]? = some (.string ⟨x.1.toArray⟩) ∧ (flatW l)[k * 2 + 1]? = some (.int .i64 (x.2 : Int))
  | [], k, x, h => by simp at h
  | y :: r, 0, x, h => by
    simp at h
    subst h
    exact ⟨rfl, rfl⟩
  | y :: r, k + 1, x, h => by
    have ih := flatW_get r k x (by simpa using h)
    unfold flatW at ih ⊢
    rw [List.flatMap_cons]
    have e1 : (k + 1) * 2 = (k * 2 + 1) + 1 := by omega
    have e2 : (k + 1) * 2 + 1 = (k * 2 + 1 + 1) + 1 := by omega
    rw [e1]
    exact ih

/-- The slice v holds just these words, in a row of its own, from block base on. -/
def WRow (T : TypeId) (w : World) (base : Nat) (v : Value) (l : List W) : Prop := w.ownsRow base T 2 v l.length (flatW l)
variable {T : TypeId} {w w' : World} {base : Nat} {v : Value} {l : List W}
theorem WRow.nil (T : TypeId) (w : World) (base : Nat) : WRow T w base (.slice none 0 0) [] := World.ownsRow_nil w base _ 2
theorem WRow.shape (h : WRow T w base v l) : ∃ a cap, v = .slice a l.length cap := by
  rcases h.2 with ⟨rfl, h2⟩ | ⟨g, cap, cur, rfl, _⟩
  · exact ⟨none, 0, by rw [h2]⟩
  · exact ⟨_, cap, rfl⟩
theorem WRow.some_ (h : WRow T w base v l) (h0 : 0 < l.length) : ∃ g cap, v = .slice (some ⟨g, 0, none⟩) l.length cap ∧ base ≤ g ∧ g < w.heap.size ∧ l.length ≤ cap ∧ cap ≤ maxLen := by
  rcases h.2 with ⟨_, h2⟩ | ⟨g, cap, cur, hv, hb, hg, hc, hm, _⟩
  · omega
  · exact ⟨g, cap, hv, hb, (Array.getElem?_eq_some_iff.1 hg).1, hc, hm⟩
theorem WRow.kept {S : Nat → Prop} (h : WRow T w base v l) (hm : Mod S w w') (hs : ∀ k, v.ownBlock = some k → ¬ S k) : WRow T w' base v l := by
  refine ⟨h.1, ?_⟩
  rcases h.2 with h2 | ⟨g, cap, cur, rfl, hb, hg, r⟩
  · exact .inl h2
  · refine .inr ⟨g, cap, cur, rfl, hb, ?_, r⟩
    rw [hm.block g (Array.getElem?_eq_some_iff.1 hg).1 (hs g rfl)]
    exact hg
theorem WRow.below (h : WRow T w base v l) (hb : Below w.heap.size w w') : WRow T w' base v l := h.kept (Mod.of_below (fun _ => False) hb) (fun _ _ h => h)
theorem WRow.rebase {base' : Nat} (h : WRow T w base v l) (hb : base' ≤ base) : WRow T w base' v l := by
  refine ⟨h.1, ?_⟩
  rcases h.2 with h2 | ⟨g, cap, cur, rfl, hb', r⟩
  · exact .inl h2
  · exact .inr ⟨g, cap, cur, rfl, by omega, r⟩
theorem WRow.cells {g n cap : Nat} (h : WRow T w base (.slice (some ⟨g, 0, none⟩) n cap) l) {k : Nat} {x : W} (hk : l[k]? = some x) :
    w.cell? ⟨g, k * 2, none⟩ = some (.string ⟨x.1.toArray⟩) ∧ w.cell? ⟨g, k * 2 + 1, none⟩ = some (.int .i64 (x.2 : Int)) := by
  obtain ⟨h1, h2⟩ := flatW_get l k x hk
  have c1 := World.ownsRow.cells h (g := g) rfl _ _ h1
  have c2 := World.ownsRow.cells h (g := g) rfl _ _ h2
  simp only [Addr.add_lit, Nat.zero_add] at c1 c2
  exact ⟨c1, c2⟩
theorem WRow.snoc {v' : Value} {x : W} (h : w.ownsRow base T 2 v' (l.length + 1) (flatW l ++ encW x)) : WRow T w base v' (l ++ [x]) := by
  unfold WRow
  rw [flatW_snoc, List.length_append]
  exact h
theorem infoW : (Try.prog.info? 99).map (fun i => (i.zero, i.size, i.bytes)) = some (some (.agg #[.string ⟨#[]⟩, .int .i64 0]), 2, 24) := by kernel_rfl
theorem infoRW : (Try.prog.info? 47).map (fun i => (i.zero, i.size, i.bytes)) = some (some (.agg #[.string ⟨#[]⟩, .int .i64 0]), 2, 24) := by kernel_rfl
theorem infoI : (Try.prog.info? 2).map (fun i => (i.zero, i.size, i.bytes)) = some (some (.int .i64 0), 1, 8) := by kernel_rfl
theorem oneW (x : W) : ∀ u ∈ encW x, u.oneCell' = true := by
  intro u hu
  simp [encW] at hu
  rcases hu with rfl | rfl <;> rfl
/-- A piece of a text, as a string. -/
theorem extract_str (s : ByteArray) (a b : Nat) : s.extract a b = ⟨((s.data.toList.drop a).take (b - a)).toArray⟩ := by
  apply ByteArray.ext
  apply Array.ext'
  simp [ByteArray.extract, ByteArray.copySlice]
end Go.Proofs.Ytoafmbjdchkahaa
