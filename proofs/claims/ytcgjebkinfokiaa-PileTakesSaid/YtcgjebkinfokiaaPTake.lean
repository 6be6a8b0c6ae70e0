/- What the law on piles keeps from round to round. -/
import Derived.Test.YtcgjebkinfokiaaActs
namespace Go.Proofs.Ytcgjebkinfokiaa
open Go.RowKit
open Go.Sort (HoldsK putRowK flatK)

/-- Where the last one that is the same stands. -/
def AtInv (hl : List It) (x : It) (i : Nat) (a : Int) : Prop := (a = -1 ∧ ∀ y ∈ hl.take i, y ≠ x) ∨ ∃ m : Nat, a = (m : Int) ∧ m < i ∧ hl[m]? = some x
theorem AtInv.start (hl : List It) (x : It) : AtInv hl x 0 (-1) := .inl ⟨rfl, fun y hy => by simp at hy⟩
theorem AtInv.yes {hl : List It} {x : It} {i : Nat} (hy : hl[i]? = some x) : AtInv hl x (i + 1) i := .inr ⟨i, rfl, by omega, hy⟩
theorem AtInv.no {hl : List It} {x y : It} {i : Nat} {a : Int} (h : AtInv hl x i a) (hy : hl[i]? = some y) (hne : y ≠ x) : AtInv hl x (i + 1) a := by
  rcases h with ⟨rfl, h⟩ | ⟨m, rfl, hm, hx⟩
  · refine .inl ⟨rfl, fun z hz => ?_⟩
    rw [List.take_add_one, hy] at hz
    simp only [Option.toList_some, List.mem_append, List.mem_singleton] at hz
    rcases hz with hz | rfl
    · exact h z hz
    · exact hne
  · exact .inr ⟨m, rfl, by omega, hx⟩
theorem AtInv.found {hl : List It} {x : It} {a : Int} (h : AtInv hl x hl.length a) (hx : x ∈ hl) : ∃ m : Nat, a = (m : Int) ∧ m < hl.length ∧ hl[m]? = some x := by
  rcases h with ⟨_, h⟩ | h
  · rw [List.take_length] at h
    exact absurd rfl (h x hx)
  · exact h
theorem erase_perm {hl l' : List It} {x : It} {m : Nat} (hm : hl[m]? = some x) (hp : hl.Perm (x :: l')) : l'.Perm (hl.eraseIdx m) := by
  obtain ⟨h, rfl⟩ := List.getElem?_eq_some_iff.1 hm
  have h2 : hl = hl.take m ++ hl[m] :: hl.drop (m + 1) := by
    rw [List.getElem_cons_drop h, List.take_append_drop]
  have h1 : hl.Perm (hl[m] :: hl.eraseIdx m) := by
    rw [List.eraseIdx_eq_take_drop_succ]
    conv => lhs; rw [h2]
    exact List.perm_middle
  exact ((h1.symm.trans hp).cons_inv).symm

theorem perm_snoc (x : It) (l : List It) : (x :: l).Perm (l ++ [x]) := List.perm_append_comm (l₁ := [x])

/-- The pile holds pl, the law's own slice hv holds hl; they lie apart. -/
structure TR (w : World) (b : Nat) (v hv : Value) (pl hl : List It) (wr : World) : Prop where
  pile : Have w b v pl wr
  row : RowW wr w.heap.size hv hl.toArray
  apart : ∀ k, hv.ownBlock = some k → k ≠ b ∧ v.ownBlock ≠ some k
theorem Have.perm {w0 W : World} {b : Nat} {v : Value} {l l' : List It} (h : Have w0 b v l W) (hp : l.Perm l') : Have w0 b v l' W := by
  obtain ⟨⟨d, h1, h2, h3⟩, hB, hf⟩ := h
  exact ⟨⟨d, h1, h2, h3.trans hp⟩, hB, hf⟩
variable {w wr w2 : World} {b : Nat} {v hv : Value} {pl hl : List It}
theorem TR.start (w : World) (w1 : World) (h : Below w.heap.size w w1) : TR w w1.heap.size (.slice none 0 0) (.slice none 0 0) [] [] (w1.alloc (.cells #[.slice none 0 0] 46)) :=
  ⟨Have.new h, RowW.nil _ _, fun k hk => by simp [Value.ownBlock] at hk⟩
theorem TR.later (h : TR w b v hv pl hl wr) (hb : Below wr.heap.size wr w2) : TR w b v hv pl hl w2 :=
  ⟨h.pile.later hb, h.row.kept (Mod.of_below (fun _ => False) hb) (fun _ _ h => h), h.apart⟩
theorem TR.perm (h : TR w b v hv pl hl wr) {pl' : List It} (hp : pl.Perm pl') : TR w b v hv pl' hl wr := ⟨h.pile.perm hp, h.row, h.apart⟩
theorem TR.piled {v' : Value} {pl' : List It} (h : TR w b v hv pl hl wr) (hP : Have w b v' pl' w2) (ht : Turned b v v' wr w2) : TR w b v' hv pl' hl w2 := by
  refine ⟨hP, h.row.kept ht.mod (fun k hk hs => ?_), fun k hk => ⟨(h.apart k hk).1, ?_⟩⟩
  · rcases hs with hs | hs
    · exact (h.apart k hk).1 hs
    · exact (h.apart k hk).2 hs
  · have hlt := (World.ownsRow.lt h.row k hk).2
    rcases ht.fresh with hf | ⟨g, hf, hg⟩
    · rw [hf]; exact (h.apart k hk).2
    · rw [hf]; intro e; injection e with e; omega
theorem TR.mod (h : TR w b v hv pl hl wr) (hm : Mod (fun k => hv.ownBlock = some k) wr w2) : Have w b v pl w2 :=
  h.pile.kept hm (fun e => (h.apart b e).1 rfl) (fun k hk e => (h.apart k e).2 hk) (fun k e => (World.ownsRow.lt h.row k e).1)
theorem TR.rowed {w' : World} {x : It} {g cap : Nat} (h : TR w b v hv pl hl w2)
    (hown : w'.ownsRow w.heap.size 31 2 (.slice (some ⟨g, 0, none⟩) (hl.length + 1) cap) (hl.length + 1) (flatL hl.toArray ++ [.int .i64 x.1, .int .i64 x.2])) (hgrow : w2.grownBy w' hv.ownBlock) (hfr : hv.ownBlock = some g ∨ g = w2.heap.size) :
    TR w b v (.slice (some ⟨g, 0, none⟩) (hl.length + 1) cap) pl (hl ++ [x]) w' := by
  have hm : Mod (fun k => hv.ownBlock = some k) w2 w' := (Mod.refl _ w2).grown hgrow (fun k e => .inr e)
  refine ⟨h.mod hm, ?_, fun k hk => ?_⟩
  · unfold RowW
    have e : (hl ++ [x]).toArray.size = hl.length + 1 := by simp
    have e2 : flatL (hl ++ [x]).toArray = flatL hl.toArray ++ [.int .i64 x.1, .int .i64 x.2] := by
      rw [flatL_mk, flatL_mk, List.flatMap_append]; simp [encIt]
    rw [e, e2]
    exact hown
  · simp only [Value.ownBlock, Option.some.injEq] at hk
    subst hk
    rcases hfr with hf | hf
    · exact h.apart g hf
    · have h1 := h.pile.lt
      refine ⟨by omega, fun e => ?_⟩
      have := (h.pile.own g e).2
      omega
theorem TR.deleted {w' : World} {g n cap m : Nat} (h : TR w b v (.slice (some ⟨g, 0, none⟩) (n + 1) cap) pl hl wr) (hd : Deleted wr w.heap.size g n cap m hl w') : TR w b v (.slice (some ⟨g, 0, none⟩) n cap) pl (hl.eraseIdx m) w' := by
  refine ⟨h.mod (hd.2.mono fun k _ e => by rw [e]; rfl), hd.1, fun k hk => h.apart k ?_⟩
  simpa [Value.ownBlock] using hk
theorem TR.shape (h : TR w b v hv pl hl wr) : ∃ a cap, hv = .slice a hl.length cap := by
  obtain ⟨a, cap, e⟩ := h.row.shape
  exact ⟨a, cap, by simpa using e⟩
/-- A block laid behind the pile is none of the pile's. -/
theorem TR.free (h : TR w b v hv pl hl wr) : ¬ pileS b v wr.heap.size := by
  rintro (e | e)
  · have := h.pile.lt; omega
  · have := (h.pile.own _ e).2; omega
theorem turned_cell {v' : Value} (h : ¬ pileS b v w.heap.size) {o : Obj} (ht : Turned b v v' (w.alloc o) w2) (i : Nat) : w2.cell? ⟨w.heap.size, i, none⟩ = (w.alloc o).cell? ⟨w.heap.size, i, none⟩ :=
  ht.mod.cell (p := ⟨w.heap.size, i, none⟩) (by simp) h
theorem TR.own_row (h : TR w b v hv pl hl wr) : wr.ownsRow w.heap.size 31 2 hv hl.length (flatL hl.toArray) := by
  have := h.row
  unfold RowW at this
  simpa using this
theorem TR.len (h : TR w b v hv pl hl wr) (n : Int) (hn : (pl.length : Int) = n) : Calls Try.prog 12 #[.pointer (some ⟨b, 0, none⟩)] wr fun e W' => e = .returned (.int .i64 n) ∧ wr = W' := by
  have := len_have h.pile
  rw [hn] at this
  exact this
theorem TR.shape2 (h : TR w b v hv pl hl wr) {n : Nat} (hn : hl.length = n + 1) : ∃ g cap, hv = .slice (some ⟨g, 0, none⟩) (n + 1) cap := by
  obtain ⟨g, cap, e, _⟩ := h.row.some_ (by simp [hn])
  exact ⟨g, cap, by simpa [hn] using e⟩
theorem TR.cells {g n cap : Nat} (h : TR w b v (.slice (some ⟨g, 0, none⟩) n cap) pl hl wr) {i : Nat} {y : It} (hy : hl[i]? = some y) :
    wr.cell? ⟨g, i * 2, none⟩ = some (.int .i64 y.1) ∧ wr.cell? ⟨g, i * 2 + 1, none⟩ = some (.int .i64 y.2) := by
  have H := h.row.holds
  obtain ⟨hi, rfl⟩ := List.getElem?_eq_some_iff.1 hy
  have hs : i < hl.toArray.size := by simpa using hi
  have e : hl.toArray[i]! = hl[i] := by rw [getElem!_pos hl.toArray i hs]; simp
  have c1 := cell_key H hs
  have c2 := cell_id H hs
  rw [e] at c1 c2
  exact ⟨c1, c2⟩
/-- What lay in block z, behind which all lies that was made since. -/
theorem below_cells {z : Nat} {x : It} (hz : z < w.heap.size) (hb : Below w.heap.size w w2) (d1 : w.cell? ⟨z, 0, none⟩ = some (.int .i64 x.1)) (d2 : w.cell? ⟨z, 1, none⟩ = some (.int .i64 x.2)) :
    w2.cell? ⟨z, 0, none⟩ = some (.int .i64 x.1) ∧ w2.cell? ⟨z, 1, none⟩ = some (.int .i64 x.2) :=
  ⟨(hb.cell (p := ⟨z, 0, none⟩) hz).trans d1, (hb.cell (p := ⟨z, 1, none⟩) hz).trans d2⟩
theorem box_cells (w : World) (x : It) (t : TypeId) : (w.alloc (.cells #[.int .i64 x.1, .int .i64 x.2] t)).cell? ⟨w.heap.size, 0, none⟩ = some (.int .i64 x.1) ∧ (w.alloc (.cells #[.int .i64 x.1, .int .i64 x.2] t)).cell? ⟨w.heap.size, 1, none⟩ = some (.int .i64 x.2) ∧ w.heap.size < (w.alloc (.cells #[.int .i64 x.1, .int .i64 x.2] t)).heap.size :=
  ⟨by simp, by simp, by simp⟩
end Go.Proofs.Ytcgjebkinfokiaa
