/- Rows of the call's own, of whatever elements: what they keep. -/
import Derived.Test.YtmnbpnjakbihdaaRows
import Derived.Test.YtmnbpnjakbihdaaMod
import Derived.Test.YtmnbpnjakbihdaaPAppend
import Derived.OwnWalk
import Derived.Deep.OwnRows
import Derived.Laws.OwnMore
namespace Go.Proofs.Ytmnbpnjakbihdaa
open Go.RowKit

variable {w w2 wr : World} {base sz n : Nat} {T : TypeId} {v : Value} {xs : List Value}
theorem owns_kept {S : Nat → Prop} (h : w.ownsRow base T sz v n xs) (hm : Mod S w w2) (hs : ∀ k, v.ownBlock = some k → ¬ S k) : w2.ownsRow base T sz v n xs := by
  refine ⟨h.1, ?_⟩
  rcases h.2 with h2 | ⟨g, cap, cur, rfl, hb, hg, r⟩
  · exact .inl h2
  · refine .inr ⟨g, cap, cur, rfl, hb, ?_, r⟩
    rw [hm.block g (Array.getElem?_eq_some_iff.1 hg).1 (hs g rfl)]
    exact hg
theorem owns_below (h : w.ownsRow base T sz v n xs) (hb : Below w.heap.size w w2) : w2.ownsRow base T sz v n xs := owns_kept h (Mod.of_below (fun _ => False) hb) (fun _ _ h => h)
theorem owns_shape (h : w.ownsRow base T sz v n xs) : ∃ a cap, v = .slice a n cap := by
  rcases h.2 with ⟨rfl, h2⟩ | ⟨g, cap, cur, rfl, _⟩
  · exact ⟨none, 0, by rw [h2]⟩
  · exact ⟨_, cap, rfl⟩
theorem owns_rebase {base' : Nat} (h : w.ownsRow base T sz v n xs) (hb : base' ≤ base) : w.ownsRow base' T sz v n xs := by
  refine ⟨h.1, ?_⟩
  rcases h.2 with h2 | ⟨g, cap, cur, rfl, hb', r⟩
  · exact .inl h2
  · exact .inr ⟨g, cap, cur, rfl, by omega, r⟩
/-- A row that isn't empty: where it lies. -/
theorem owns_some (h : w.ownsRow base T sz v n xs) (h0 : 0 < n) : ∃ g cap, v = .slice (some ⟨g, 0, none⟩) n cap ∧ base ≤ g ∧ g < w.heap.size ∧ n ≤ cap ∧ cap ≤ maxLen := by
  rcases h.2 with ⟨_, h2⟩ | ⟨g, cap, cur, hv, hb, hg, hc, hm, _⟩
  · omega
  · exact ⟨g, cap, hv, hb, (Array.getElem?_eq_some_iff.1 hg).1, hc, hm⟩

/-- Numbers, as cells. -/
def numsV (t : List Int) : List Value := t.map (Value.int .i64)
theorem numsV_snoc (t : List Int) (x : Int) : numsV (t ++ [x]) = numsV t ++ [.int .i64 x] := by simp [numsV]
theorem nums_cell {t : List Int} {g m cap : Nat} (h : w.ownsRow base T 1 (.slice (some ⟨g, 0, none⟩) m cap) n (numsV t)) {k : Nat} {x : Int} (hx : t[k]? = some x) : w.cell? ⟨g, k, none⟩ = some (.int .i64 x) := by
  have := World.ownsRow.cells h (g := g) rfl k (.int .i64 x) (by simp [numsV, hx])
  simpa [Addr.add_lit] using this
theorem news_at (w : World) (x : Value) (T : TypeId) (z : Nat) (hz : w.heap.size = z) : ∀ (j : Nat) (u : Value), [x][j]? = some u → (w.alloc (.cells #[x] T)).cell? ((⟨z, 0, none⟩ : Addr).add j) = some u := by
  subst hz
  intro j u hj
  match j, hj with
  | 0, hj =>
    simp at hj
    subst hj
    rw [Addr.add_lit]
    simp
theorem one_int (x : Int) : ∀ u ∈ [Value.int .i64 x], u.oneCell' = true := by
  intro u hu
  simp at hu
  subst hu
  rfl
theorem rowIs_below {b N : Nat} {f : Nat → Value} (h : w.rowIs b T N f) (hb : Below w.heap.size w w2) : w2.rowIs b T N f := h.of_block (hb.block b h.lt)
end Go.Proofs.Ytmnbpnjakbihdaa
