/- Package word: the reader's state, More, Place, Is. -/
import Derived.Test.YtnnddmojcaicbaaDoorRdA
import Derived.BigQuiet
import Derived.StillTailTactics
namespace Go.Proofs.YtnnddmojcaicbaaDoor
open Go.RowKit

/-- What is read of a block of five cells. -/
theorem cells5 {w : World} {R : Nat} {a b c d e : Value} {T : TypeId} (h : w.heap[R]? = some (.cells #[a, b, c, d, e] T (0, 0))) :
    w.cell? ⟨R, 0, none⟩ = some a ∧ w.cell? ⟨R, 1, none⟩ = some b ∧ w.cell? ⟨R, 2, none⟩ = some c ∧ w.cell? ⟨R, 3, none⟩ = some d ∧ w.cell? ⟨R, 4, none⟩ = some e ∧ (∀ o, w.frozen? ⟨R, o, none⟩ = false) ∧ R < w.heap.size := by
  refine ⟨by simp [World.cell?, h], by simp [World.cell?, h], by simp [World.cell?, h], by simp [World.cell?, h], by simp [World.cell?, h], fun o => by simp [World.frozen?, h], lt_of_block h⟩
theorem set_block {w : World} {R o : Nat} {c : Array Value} {T : TypeId} {f : Nat × Nat} (h : w.heap[R]? = some (.cells c T f)) (u : Value) : (w.setCell ⟨R, o, none⟩ u).heap[R]? = some (.cells (c.setIfInBounds o u) T f) := by
  have hlt := lt_of_block h
  have h' : w.heap[R] = .cells c T f := by simpa [Array.getElem?_eq_getElem hlt] using h
  show (w.heap.modify R _)[R]? = _
  rw [Array.getElem?_eq_getElem (by simpa using hlt), Array.getElem_modify_self, h']
  rfl

/-- A reader at block R: its words (the row v), which one is next, the text's length; where it gave up, and why. -/
structure Rd (base R : Nat) (v : Value) (ws : List W) (n k : Nat) (at_ code : Int) (w : World) : Prop where
  blk : w.heap[R]? = some (.cells #[v, .int .i64 (k : Int), .int .i64 (n : Int), .int .i64 at_, .int .i64 code] 94 (0, 0))
  row : WRow 100 w base v ws
  apart : v.ownBlock ≠ some R
  kle : k ≤ ws.length
  len : ws.length ≤ 1000000
variable {base R n k : Nat} {v : Value} {ws : List W} {at_ code : Int} {w w' : World}
theorem Rd.drewN (h : Rd base R v ws n k at_ code w) (m : Nat) : Rd base R v ws n k at_ code (w.drewN m) := ⟨h.blk, h.row, h.apart, h.kle, h.len⟩
theorem Rd.drew (h : Rd base R v ws n k at_ code w) : Rd base R v ws n k at_ code w.drew := ⟨h.blk, h.row, h.apart, h.kle, h.len⟩
theorem Rd.lt (h : Rd base R v ws n k at_ code w) : R < w.heap.size := lt_of_block h.blk
theorem Rd.kept {S : Nat → Prop} (h : Rd base R v ws n k at_ code w) (hm : Mod S w w') (hR : ¬ S R) (hv : ∀ b, v.ownBlock = some b → ¬ S b) : Rd base R v ws n k at_ code w' :=
  ⟨(hm.block R h.lt hR).trans h.blk, h.row.kept hm hv, h.apart, h.kle, h.len⟩
theorem Rd.below (h : Rd base R v ws n k at_ code w) (hb : Below w.heap.size w w') : Rd base R v ws n k at_ code w' :=
  h.kept (Mod.of_below (fun _ => False) hb) (fun h => h) (fun _ _ h => h)
theorem Rd.next (h : Rd base R v ws n k at_ code w) (hk : k < ws.length) : Rd base R v ws n (k + 1) at_ code (w.setCell ⟨R, 1, none⟩ (.int .i64 ((k : Int) + 1))) := by
  refine ⟨?_, ?_, h.apart, hk, h.len⟩
  · rw [set_block h.blk]
    rfl
  · exact ownsRow_setCell_other h.row h.apart _
theorem Rd.cells (h : Rd base R v ws n k at_ code w) : w.cell? ⟨R, 0, none⟩ = some v ∧ w.cell? ⟨R, 1, none⟩ = some (.int .i64 (k : Int)) ∧ w.cell? ⟨R, 2, none⟩ = some (.int .i64 (n : Int)) ∧ w.cell? ⟨R, 3, none⟩ = some (.int .i64 at_) ∧ w.cell? ⟨R, 4, none⟩ = some (.int .i64 code) ∧ (∀ o, w.frozen? ⟨R, o, none⟩ = false) ∧ R < w.heap.size := cells5 h.blk
theorem Rd.word (h : Rd base R v ws n k at_ code w) {t : List UInt8} {a : Nat} (hk : ws[k]? = some (t, a)) :
    ∃ g cap, v = .slice (some ⟨g, 0, none⟩) ws.length cap ∧ ws.length ≤ cap ∧ cap ≤ maxLen ∧ w.cell? ⟨g, k * 2, none⟩ = some (.string ⟨t.toArray⟩) ∧ w.cell? ⟨g, k * 2 + 1, none⟩ = some (.int .i64 (a : Int)) := by
  have hlt : k < ws.length := (List.getElem?_eq_some_iff.1 hk).1
  obtain ⟨g, cap, rfl, _, _, h1, h2⟩ := h.row.some_ (by omega)
  have := h.row.cells hk
  exact ⟨g, cap, rfl, h1, h2, this.1, this.2⟩

/-- Where the next word begins. -/
def placeN (ws : List W) (n k : Nat) : Nat := match ws[k]? with | some x => x.2 | none => n
theorem placeN_some {t : List UInt8} {a : Nat} (h : ws[k]? = some (t, a)) : placeN ws n k = a := by simp [placeN, h]
theorem placeN_none (h : ¬ k < ws.length) : placeN ws n k = n := by
  have : ws[k]? = none := by simpa using h
  simp [placeN, this]

abbrev ptrR (R : Nat) : Value := .pointer (some ⟨R, 0, none⟩)

theorem more_any (h : Rd base R v ws n k at_ code w) : Calls Tryd.prog 49 #[ptrR R] w fun e w' => e = .returned (.bool (decide (k < ws.length))) ∧ ∃ m, w' = w.drewN m := by
  obtain ⟨c0, c1, c2, c3, c4, hf, hlt⟩ := h.cells
  obtain ⟨a, cap, hv⟩ := h.row.shape
  subst hv
  clear h hf c2 c3 c4
  go_enter Tryd.func49, Tryd.ntmps49
  go_wp2
  go_quiet (fail)
  go_wp2
  go_ret
  exact ⟨rfl, _, rfl⟩

theorem place_none (h : Rd base R v ws n k at_ code w) (hk : ¬ k < ws.length) : Calls Tryd.prog 50 #[ptrR R] w fun e w' => e = .returned (.int .i64 (n : Int)) ∧ ∃ m, w' = w.drewN m := by
  have hm := more_any h
  rw [show decide (k < ws.length) = false from decide_eq_false hk] at hm
  obtain ⟨c0, c1, c2, c3, c4, hf, hlt⟩ := h.cells
  have HM := Lib.hid hm; clear hm
  clear h hf c0 c1 c3 c4
  go_enter Tryd.func50, Tryd.ntmps50
  go_wp2_with (go_at_call 49; refine HM.out.mono ?_; rintro e w' ⟨rfl, m, rfl⟩)
  go_ret
  exact ⟨rfl, _, rfl⟩

theorem place_some (h : Rd base R v ws n k at_ code w) {t : List UInt8} {a : Nat} (hk : ws[k]? = some (t, a)) : Calls Tryd.prog 50 #[ptrR R] w fun e w' => e = .returned (.int .i64 (a : Int)) ∧ ∃ m, w' = w.drewN m := by
  have hlt : k < ws.length := (List.getElem?_eq_some_iff.1 hk).1
  have hm := more_any h
  rw [show decide (k < ws.length) = true from decide_eq_true hlt] at hm
  obtain ⟨c0, c1, c2, c3, c4, hf, hR⟩ := h.cells
  obtain ⟨g, cap, hv, hcl, hcm, e0, e1⟩ := h.word hk
  have hl := h.len
  subst hv
  have HM := Lib.hid hm; clear hm
  clear h hf c2 c3 c4 hk e0
  unfold maxLen at hcm
  go_enter Tryd.func50, Tryd.ntmps50
  go_wp2_with (go_at_call 49; refine HM.out.mono ?_; rintro e w' ⟨rfl, m, rfl⟩)
  go_quiet (fail)
  go_wp2
  go_ret
  exact ⟨rfl, _, World.drewN_drewN _ _ _⟩

theorem place_any (h : Rd base R v ws n k at_ code w) : Calls Tryd.prog 50 #[ptrR R] w fun e w' => e = .returned (.int .i64 (placeN ws n k : Int)) ∧ ∃ m, w' = w.drewN m := by
  by_cases hk : k < ws.length
  · obtain ⟨⟨t, a⟩, hx⟩ : ∃ x, ws[k]? = some x := ⟨_, List.getElem?_eq_getElem hk⟩
    rw [placeN_some hx]
    exact place_some h hx
  · rw [placeN_none hk]
    exact place_none h hk
end Go.Proofs.YtnnddmojcaicbaaDoor
