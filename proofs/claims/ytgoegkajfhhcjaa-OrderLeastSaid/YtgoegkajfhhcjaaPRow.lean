/- Worlds in which some blocks alone have been written; rows of things. -/
import Derived.Test.YtgoegkajfhhcjaaPLess
import Derived.Test.YtgoegkajfhhcjaaMod
import Derived.Below
import Derived.Laws.AppendOwn
import Derived.Laws.NewBlocks
import Derived.OneCell
namespace Go.Proofs.Ytgoegkajfhhcjaa
open Go.RowKit
open Go.Sort (swp size_swp HoldsK putRowK flatK)

theorem heap_mapBlock (w : World) (g k : Nat) (f : Array Value → Array Value) (h : k ≠ g) : (Sort.mapBlock w g f).heap[k]? = w.heap[k]? := by
  simp only [Sort.mapBlock, Array.getElem?_modify]
  rw [if_neg (Ne.symm h)]
theorem Mod.put (w : World) (g q : Nat) (d : Array It) : Mod (· = g) w (putRowK encIt 2 (Sort.ahead w q) g 0 d) := by
  refine ⟨rfl, rfl, rfl, ?_, fun k _ hs => ?_⟩
  · simp [putRowK, Sort.putRow, Sort.mapBlock, Sort.ahead]
  · exact heap_mapBlock (Sort.ahead w q) g k _ hs

/-! ### Rows of things -/
/-- The things' cells, one behind another. -/
def flatL (d : Array It) : List Value := d.toList.flatMap encIt
theorem flat_len (l : List It) : (l.flatMap encIt).length = l.length * 2 := by
  induction l with
  | nil => rfl
  | cons x r ih => rw [List.flatMap_cons, List.length_append, ih, List.length_cons]; show 2 + _ = _; omega
theorem flatL_length (d : Array It) : (flatL d).length = d.size * 2 := by
  unfold flatL
  rw [flat_len, Array.length_toList]
theorem flatL_push (d : Array It) (x : It) : flatL (d.push x) = flatL d ++ encIt x := by simp [flatL]
theorem flatMap_get (l : List It) : ∀ (t : Nat), t < l.length * 2 → (l.flatMap encIt)[t]? = some (encIt (l.getD (t / 2) default))[t % 2]! := by
  induction l with
  | nil => intro t h; simp at h
  | cons x r ih =>
    intro t h
    rw [List.flatMap_cons]
    match t, h with
    | 0, _ => rfl
    | 1, _ => rfl
    | t + 2, h =>
      rw [List.getElem?_append_right (by simp [encIt])]
      have e1 : (t + 2) / 2 = t / 2 + 1 := by omega
      have e2 : (t + 2) % 2 = t % 2 := by omega
      rw [e1, e2]
      have := ih t (by simp at h; omega)
      simpa [encIt] using this
theorem flat_toList (d : Array It) : (flatK encIt 2 d).toList = flatL d := by
  apply List.ext_getElem?
  intro t
  by_cases h : t < d.size * 2
  · rw [flatL, flatMap_get d.toList t (by simpa using h)]
    have hs : t < (flatK encIt 2 d).toList.length := by simpa using h
    rw [List.getElem?_eq_getElem hs]
    have := Sort.get_flatK encIt 2 d t h
    rw [getElem!_pos _ t (by simpa using h)] at this
    rw [Array.getElem_toList, this]
    congr 3
    rw [getElem!_pos d (t / 2) (by omega)]
    simp [List.getD, show t / 2 < d.size by omega]
  · rw [List.getElem?_eq_none (by simp; omega), List.getElem?_eq_none (by rw [flatL_length]; omega)]
theorem flatL_pop (d : Array It) (n : Nat) (h : d.size = n + 1) : (flatL d).take (n * 2) = flatL d.pop := by
  have h1 : d = d.pop.push d[n]! := by
    apply Array.ext
    · simp; omega
    · intro k h1 h2
      rw [Array.getElem_push]
      split
      · rw [Array.getElem_pop]
      · have : k = n := by simp at *; omega
        subst this
        rw [getElem!_pos d k (by omega)]
  conv => lhs; rw [h1, flatL_push]
  rw [List.take_append_of_le_length (by rw [flatL_length]; simp; omega), List.take_of_length_le (by rw [flatL_length]; simp; omega)]

/-- The slice v holds just these things, in a row of its own, from block base on. -/
def RowW (w : World) (base : Nat) (v : Value) (d : Array It) : Prop := w.ownsRow base 66 2 v d.size (flatL d)
theorem RowW.nil (w : World) (base : Nat) : RowW w base (.slice none 0 0) #[] := World.ownsRow_nil w base _ 2
theorem RowW.some_ {w : World} {base : Nat} {v : Value} {d : Array It} (h : RowW w base v d) (h0 : 0 < d.size) : ∃ g cap, v = .slice (some ⟨g, 0, none⟩) d.size cap ∧ base ≤ g ∧ g < w.heap.size ∧ d.size ≤ cap := by
  rcases h.2 with ⟨_, h2⟩ | ⟨g, cap, cur, hv, hb, hg, hc, _⟩
  · omega
  · exact ⟨g, cap, hv, hb, (Array.getElem?_eq_some_iff.1 hg).1, hc⟩
theorem RowW.shape {w : World} {base : Nat} {v : Value} {d : Array It} (h : RowW w base v d) : ∃ a cap, v = .slice a d.size cap := by
  rcases h.2 with ⟨rfl, h2⟩ | ⟨g, cap, cur, rfl, _⟩
  · exact ⟨none, 0, by rw [h2]⟩
  · exact ⟨_, cap, rfl⟩
theorem RowW.holds {w : World} {base g n cap : Nat} {d : Array It} (h : RowW w base (.slice (some ⟨g, 0, none⟩) n cap) d) : HoldsK encIt 2 w g 0 d := by
  intro j hj
  have hj' : j < d.size * 2 := by simpa using hj
  have hc := World.ownsRow.cells h (g := g) rfl j ((flatK encIt 2 d)[j]!) (by
    rw [← flat_toList, List.getElem?_eq_getElem (by simpa using hj'), Array.getElem_toList, getElem!_pos _ j hj])
  rcases h.2 with ⟨e, _⟩ | ⟨g', cap', cur, e, _, hg, _⟩
  · cases e
  · injection e with e1 e2 e3
    injection e1 with e1
    injection e1 with e1
    subst e1
    refine ⟨?_, ?_⟩
    · have hadd : (⟨g, 0, none⟩ : Addr).add j = ⟨g, 0 + j, none⟩ := by unfold Addr.add; split <;> simp_all
      rw [hadd] at hc
      exact hc
    · simp [World.frozen?, hg]
theorem RowW.kept {w w' : World} {base : Nat} {v : Value} {d : Array It} {S : Nat → Prop} (h : RowW w base v d) (hm : Mod S w w') (hs : ∀ k, v.ownBlock = some k → ¬ S k) : RowW w' base v d := by
  refine ⟨h.1, ?_⟩
  rcases h.2 with h2 | ⟨g, cap, cur, rfl, hb, hg, r⟩
  · exact .inl h2
  · refine .inr ⟨g, cap, cur, rfl, hb, ?_, r⟩
    rw [hm.block g (Array.getElem?_eq_some_iff.1 hg).1 (hs g rfl)]
    exact hg
theorem RowW.put {w : World} {base g n cap : Nat} {d d' : Array It} (h : RowW w base (.slice (some ⟨g, 0, none⟩) n cap) d) (hs : d'.size = d.size) (q : Nat) : RowW (putRowK encIt 2 (Sort.ahead w q) g 0 d') base (.slice (some ⟨g, 0, none⟩) n cap) d' := by
  rcases h.2 with ⟨e, _⟩ | ⟨g', cap', cur, e, hb, hg, hn, hm, hz, ht⟩
  · cases e
  · injection e with e1 e2 e3
    injection e1 with e1
    injection e1 with e1
    subst e1 e2 e3
    refine ⟨by rw [flatL_length], .inr ⟨g, cap, Sort.putCells id 0 (flatK encIt 2 d') cur, by rw [hs], hb, ?_, by omega, hm, ?_, ?_⟩⟩
    · show (Sort.mapBlock (Sort.ahead w q) g _).heap[g]? = _
      simp [Sort.mapBlock, Array.getElem?_modify, Sort.ahead, hg, Sort.onCells]
    · simpa [Sort.putCells] using hz
    · rw [← flat_toList]
      apply List.ext_getElem?
      intro t
      by_cases ht' : t < d'.size * 2
      · rw [List.getElem?_take, if_pos ht']
        have hlt : t < cur.size := by have := Nat.mul_le_mul_right 2 hn; omega
        simp only [Array.getElem?_toList, Sort.putCells, Array.getElem?_mapIdx, Array.getElem?_eq_getElem hlt, Option.map_some]
        rw [if_pos ⟨Nat.zero_le _, by simpa using ht'⟩, Array.getElem?_eq_getElem (by simpa using ht')]
        simp only [Nat.sub_zero, id]
        rw [getElem!_pos _ t (by simpa using ht')]
      · rw [List.getElem?_eq_none (by simp [List.length_take]; omega), List.getElem?_eq_none (by simp; omega)]
theorem RowW.pop {w : World} {base g n cap : Nat} {d : Array It} (h : RowW w base (.slice (some ⟨g, 0, none⟩) (n + 1) cap) d) (hs : d.size = n + 1) : RowW w base (.slice (some ⟨g, 0, none⟩) n cap) d.pop := by
  rcases h.2 with ⟨e, _⟩ | ⟨g', cap', cur, e, hb, hg, hn, hm, hz, ht⟩
  · cases e
  · injection e with e1 e2 e3
    injection e1 with e1
    injection e1 with e1
    subst e1 e3
    have hps : d.pop.size = n := by simp [hs]
    refine ⟨by rw [flatL_length], .inr ⟨g, cap, cur, by rw [hps], hb, hg, by omega, hm, hz, ?_⟩⟩
    rw [hps, ← flatL_pop d n hs, ← ht, List.take_take, Nat.min_eq_left (by omega)]
end Go.Proofs.Ytgoegkajfhhcjaa
