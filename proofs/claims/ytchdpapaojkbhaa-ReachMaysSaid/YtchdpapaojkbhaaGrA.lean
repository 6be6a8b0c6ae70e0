/- Joined: Graph, Check, Next. -/
import Derived.Test.YtchdpapaojkbhaaRows
import Derived.Test.YtchdpapaojkbhaaBase1
import Derived.Laws.Rows
import Derived.Deep.Slices
import Derived.Deep.Draws
import Derived.Lib.Hide
import Derived.Deep.RegionWith
import Derived.OneCell
import Derived.Deep.RegionHeld3
section
/- Package graph: what a graph is in memory; Has, Check. -/
namespace Go.Proofs.Ytchdpapaojkbhaa
open Go.RowKit

/-- An arc: from, to, weight. -/
abbrev Ar := Int × Int × Int
/-- An arc's three cells. -/
def encA (x : Ar) : List Value := [.int .i64 x.1, .int .i64 x.2.1, .int .i64 x.2.2]
/-- The arcs lie one behind another, from offset off of block b on. -/
def ArRow (w : World) (b off : Nat) (l : List Ar) : Prop := ∀ (k : Nat) (x : Ar), l[k]? = some x →
  w.cell? ⟨b, off + k * 3, none⟩ = some (.int .i64 x.1) ∧ w.cell? ⟨b, off + k * 3 + 1, none⟩ = some (.int .i64 x.2.1) ∧ w.cell? ⟨b, off + k * 3 + 2, none⟩ = some (.int .i64 x.2.2)
/-- The slice's elements are these arcs; they lay there already when the heap had B blocks. -/
def IsArcs (B : Nat) (w : World) (a : Option Addr) (len : Nat) (l : List Ar) : Prop := l.length = len ∧ (len = 0 ∨ ∃ b off, a = some ⟨b, off, none⟩ ∧ b < B ∧ ArRow w b off l)
variable {w wr w2 : World} {a : Option Addr} {len cap B B2 g : Nat} {l : List Ar} {n : Int}
theorem ArRow.of_block {b off : Nat} (h : ArRow w b off l) (e : w2.heap[b]? = w.heap[b]?) : ArRow w2 b off l := fun k x hk => by
  obtain ⟨h1, h2, h3⟩ := h k x hk
  exact ⟨(World.cell?_of_block (w := w) (by exact e)).trans h1, (World.cell?_of_block (w := w) (by exact e)).trans h2, (World.cell?_of_block (w := w) (by exact e)).trans h3⟩
theorem IsArcs.later (h : IsArcs B w a len l) (hb : Below B w w2) : IsArcs B w2 a len l := ⟨h.1, by
  rcases h.2 with h | ⟨b, off, e, h1, h2⟩
  · exact .inl h
  · exact .inr ⟨b, off, e, h1, h2.of_block (hb.block b h1)⟩⟩
theorem IsArcs.mono (h : IsArcs B w a len l) (hb : B ≤ B2) : IsArcs B2 w a len l := ⟨h.1, by
  rcases h.2 with h | ⟨b, off, e, h1, h2⟩
  · exact .inl h
  · exact .inr ⟨b, off, e, by omega, h2⟩⟩
theorem IsArcs.at_ (h : IsArcs B w a len l) {k : Nat} (hk : k < len) : ∃ b off x, a = some ⟨b, off, none⟩ ∧ b < B ∧ l[k]? = some x ∧
    w.cell? ⟨b, off + k * 3, none⟩ = some (.int .i64 x.1) ∧ w.cell? ⟨b, off + k * 3 + 1, none⟩ = some (.int .i64 x.2.1) ∧ w.cell? ⟨b, off + k * 3 + 2, none⟩ = some (.int .i64 x.2.2) := by
  obtain ⟨h1, h2⟩ := h
  subst h1
  rcases h2 with h2 | ⟨b, off, e, hb, hr⟩
  · omega
  · exact ⟨b, off, _, e, hb, List.getElem?_eq_getElem hk, hr k _ (List.getElem?_eq_getElem hk)⟩

/-- wr is w but for what is new; block g, new, holds the receiver. -/
structure Box (w wr : World) (g : Nat) (n : Int) (a : Option Addr) (len cap : Nat) : Prop where
  below : Below w.heap.size w wr
  ge : w.heap.size ≤ g
  blk : wr.heap[g]? = some (.cells #[.int .i64 n, .slice a len cap] 71 (0, 0))
theorem Box.lt (h : Box w wr g n a len cap) : g < wr.heap.size := (Array.getElem?_eq_some_iff.1 h.blk).1
theorem Box.make (h : Below w.heap.size w wr) (n : Int) (a : Option Addr) (len cap : Nat) : Box w (wr.alloc (.cells #[.int .i64 n, .slice a len cap] 71)) wr.heap.size n a len cap :=
  ⟨h.alloc h.size _, h.size, heap_alloc_new _ _⟩
theorem Box.later (h : Box w wr g n a len cap) (hb : Below wr.heap.size wr w2) : Box w w2 g n a len cap :=
  ⟨h.below.trans (hb.mono h.below.size), h.ge, (hb.block g h.lt).trans h.blk⟩
theorem Box.alloc (h : Box w wr g n a len cap) (o : Obj) : Box w (wr.alloc o) g n a len cap := ⟨h.below.alloc h.below.size o, h.ge, (Below.heap_alloc _ _ _ h.lt).trans h.blk⟩
theorem Box.drewN (h : Box w wr g n a len cap) (m : Nat) : Box w (wr.drewN m) g n a len cap := ⟨below_drewN h.below m, h.ge, h.blk⟩
theorem Box.set_ (h : Box w wr g n a len cap) {g2 : Nat} (hg : w.heap.size ≤ g2) (hne : g ≠ g2) (i : Nat) (v : Value) : Box w (wr.setCell ⟨g2, i, none⟩ v) g n a len cap :=
  ⟨h.below.setCell hg _, h.ge, by rw [heap_setCell_other _ _ _ _ hne]; exact h.blk⟩
theorem Box.c0 (h : Box w wr g n a len cap) : wr.cell? ⟨g, 0, none⟩ = some (.int .i64 n) := by simp [World.cell?, h.blk]
theorem Box.c1 (h : Box w wr g n a len cap) : wr.cell? ⟨g, 1, none⟩ = some (.slice a len cap) := by simp [World.cell?, h.blk]
theorem Box.arcs (h : Box w wr g n a len cap) (hl : IsArcs w.heap.size w a len l) : IsArcs w.heap.size wr a len l := hl.later h.below
/-- The arcs of the world of a call made here. -/
theorem Box.arcsHere (h : Box w wr g n a len cap) (hl : IsArcs w.heap.size w a len l) : IsArcs wr.heap.size wr a len l := (hl.later h.below).mono h.below.size

/-! ### Has -/
/-- Is there such a node? -/
def hasB (n i : Int) : Bool := decide (0 ≤ i ∧ i < n)
theorem hasB_true {n i : Int} : hasB n i = true ↔ 0 ≤ i ∧ i < n := by simp [hasB]
theorem hasB_false {n i : Int} : hasB n i = false ↔ ¬ (0 ≤ i ∧ i < n) := by simp [hasB]
theorem gret_bool {p q : Bool} (h : p = q) : Ending.returned (.bool p) = .returned (.bool q) := by rw [h]

theorem ghas_any (n i : Int) (a : Option Addr) (len cap : Nat) (w : World) :
    Calls Try.prog 59 #[.agg #[.int .i64 n, .slice a len cap], .int .i64 i] w fun e w' => e = .returned (.bool (hasB n i)) ∧ Below w.heap.size w w' := by
  by_cases h1 : 0 ≤ i
  · by_cases h2 : i < n
    · go_enter Try.func59, Try.ntmps59
      go_wp2_with fail
      go_ret
      exact ⟨gret_bool (hasB_true.2 ⟨h1, h2⟩).symm, (Below.refl _ _).alloc (Nat.le_refl _) _⟩
    · go_enter Try.func59, Try.ntmps59
      go_wp2_with fail
      go_ret
      exact ⟨gret_bool (hasB_false.2 (by omega)).symm, (Below.refl _ _).alloc (Nat.le_refl _) _⟩
  · go_enter Try.func59, Try.ntmps59
    go_wp2_with fail
    go_ret
    exact ⟨gret_bool (hasB_false.2 (by omega)).symm, (Below.refl _ _).alloc (Nat.le_refl _) _⟩
theorem has_yes {n i : Int} (h : 0 ≤ i ∧ i < n) (a : Option Addr) (len cap : Nat) (w : World) :
    Calls Try.prog 59 #[.agg #[.int .i64 n, .slice a len cap], .int .i64 i] w fun e w' => e = .returned (.bool true) ∧ Below w.heap.size w w' := by
  have := ghas_any n i a len cap w
  rw [hasB_true.2 h] at this
  exact this
theorem has_no {n i : Int} (h : ¬ (0 ≤ i ∧ i < n)) (a : Option Addr) (len cap : Nat) (w : World) :
    Calls Try.prog 59 #[.agg #[.int .i64 n, .slice a len cap], .int .i64 i] w fun e w' => e = .returned (.bool false) ∧ Below w.heap.size w w' := by
  have := ghas_any n i a len cap w
  rw [hasB_false.2 h] at this
  exact this
end Go.Proofs.Ytchdpapaojkbhaa
end
section
/- Package graph: Check. -/
namespace Go.Proofs.Ytchdpapaojkbhaa
open Go.RowKit

/-- May this arc be, of n nodes? -/
def okA (n : Int) (x : Ar) : Bool := hasB n x.1 && hasB n x.2.1 && decide (-1099511627776 ≤ x.2.2 ∧ x.2.2 ≤ 1099511627776)
/-- What Check answers. -/
def checkV (n : Int) (l : List Ar) : Int := if n < 0 ∨ 1000 < n ∨ 20000 < l.length then 4 else if l.all (okA n) then 0 else 2
variable {w wr w2 : World} {a : Option Addr} {len cap B g : Nat} {l : List Ar} {n : Int} {k : Nat} {x : Ar}
theorem okA_true : okA n x = true ↔ (0 ≤ x.1 ∧ x.1 < n) ∧ (0 ≤ x.2.1 ∧ x.2.1 < n) ∧ -1099511627776 ≤ x.2.2 ∧ x.2.2 ≤ 1099511627776 := by
  simp [okA, hasB, and_assoc]
theorem checkV_size (h : n < 0 ∨ 1000 < n ∨ 20000 < l.length) : checkV n l = 4 := by rw [checkV, if_pos h]
theorem checkV_bad (h : ¬ (n < 0 ∨ 1000 < n ∨ 20000 < l.length)) (hx : l[k]? = some x) (hb : okA n x = false) : checkV n l = 2 := by
  rw [checkV, if_neg h, if_neg]
  intro h2
  have := List.all_eq_true.1 h2 x (List.mem_of_getElem? hx)
  rw [hb] at this
  cases this
theorem checkV_good (h : ¬ (n < 0 ∨ 1000 < n ∨ 20000 < l.length)) (hx : (l.take k).all (okA n) = true) (hk : l.length ≤ k) : checkV n l = 0 := by
  rw [checkV, if_neg h, if_pos]
  rwa [List.take_of_length_le hk] at hx
theorem checkV_zero : checkV n l = 0 ↔ (0 ≤ n ∧ n ≤ 1000 ∧ l.length ≤ 20000) ∧ ∀ x ∈ l, okA n x = true := by
  unfold checkV
  by_cases h : n < 0 ∨ 1000 < n ∨ 20000 < l.length
  · rw [if_pos h]
    constructor
    · intro h; cases h
    · intro h2; omega
  · rw [if_neg h]
    by_cases h2 : l.all (okA n) = true
    · rw [if_pos h2]
      exact ⟨fun _ => ⟨by omega, List.all_eq_true.1 h2⟩, fun _ => rfl⟩
    · rw [if_neg h2]
      constructor
      · intro h; cases h
      · intro h3; exact absurd (List.all_eq_true.2 h3.2) h2
theorem all_snoc (hx : l[k]? = some x) (h : (l.take k).all (okA n) = true) (hb : okA n x = true) : (l.take (k + 1)).all (okA n) = true := by
  rw [List.take_add_one, hx, List.all_append, h]
  simp [hb]
theorem ret_num {p q : Int} (h : p = q) : Ending.returned (.int .i64 p) = .returned (.int .i64 q) := by rw [h]

theorem check_size (hs : n < 0 ∨ 1000 < n ∨ (20000 : Int) < (len : Int)) (cap : Nat) (a : Option Addr) (w : World) :
    Calls Try.prog 58 #[.agg #[.int .i64 n, .slice a len cap]] w fun e w' => e = .returned (.int .i64 4) ∧ Below w.heap.size w w' := by
  by_cases h1 : n < 0
  · clear hs
    go_enter Try.func58, Try.ntmps58
    go_wp2_with fail
    go_ret
    exact ⟨rfl, (Below.refl _ _).alloc (Nat.le_refl _) _⟩
  · by_cases h2 : 1000 < n
    · clear hs
      go_enter Try.func58, Try.ntmps58
      go_wp2_with fail
      go_ret
      exact ⟨rfl, (Below.refl _ _).alloc (Nat.le_refl _) _⟩
    · have h3 : (20000 : Int) < (len : Int) := by omega
      clear hs
      go_enter Try.func58, Try.ntmps58
      go_wp2_with fail
      go_ret
      exact ⟨rfl, (Below.refl _ _).alloc (Nat.le_refl _) _⟩

/-- What a loop over the receiver's arcs has: the receiver's box; the arc of the round in a block of its own. -/
structure Arc1 (w wr : World) (g ab : Nat) (n : Int) (a : Option Addr) (len cap : Nat) (x : Ar) : Prop where
  box : Box w wr g n a len cap
  ge : w.heap.size ≤ ab
  blk : wr.heap[ab]? = some (.cells #[.int .i64 x.1, .int .i64 x.2.1, .int .i64 x.2.2] 88 (0, 0))
theorem Arc1.make (h : Box w wr g n a len cap) (x : Ar) : Arc1 w (wr.alloc (.cells #[.int .i64 x.1, .int .i64 x.2.1, .int .i64 x.2.2] 88)) g wr.heap.size n a len cap x :=
  ⟨h.alloc _, h.below.size, heap_alloc_new _ _⟩
theorem Arc1.later {ab : Nat} (h : Arc1 w wr g ab n a len cap x) (hb : Below wr.heap.size wr w2) : Arc1 w w2 g ab n a len cap x :=
  ⟨h.box.later hb, h.ge, (hb.block ab (Array.getElem?_eq_some_iff.1 h.blk).1).trans h.blk⟩
theorem Arc1.d0 {ab : Nat} (h : Arc1 w wr g ab n a len cap x) : wr.cell? ⟨ab, 0, none⟩ = some (.int .i64 x.1) := by simp [World.cell?, h.blk]
theorem Arc1.d1 {ab : Nat} (h : Arc1 w wr g ab n a len cap x) : wr.cell? ⟨ab, 1, none⟩ = some (.int .i64 x.2.1) := by simp [World.cell?, h.blk]
theorem Arc1.d2 {ab : Nat} (h : Arc1 w wr g ab n a len cap x) : wr.cell? ⟨ab, 2, none⟩ = some (.int .i64 x.2.2) := by simp [World.cell?, h.blk]

set_option maxHeartbeats 2000000 in
set_option maxRecDepth 100000 in
theorem check_arcs (hs : ¬ (n < 0 ∨ 1000 < n ∨ (20000 : Int) < (len : Int))) (cap : Nat) (a : Option Addr) (w : World) (hl : IsArcs w.heap.size w a len l) :
    Calls Try.prog 58 #[.agg #[.int .i64 n, .slice a len cap]] w fun e w' => e = .returned (.int .i64 (checkV n l)) ∧ Below w.heap.size w w' := by
  have HS : Hid (¬ (n < 0 ∨ 1000 < n ∨ 20000 < l.length)) := Lib.hid (by have := hl.1; omega)
  have h1 : ¬ n < 0 := by omega
  have h2 : ¬ 1000 < n := by omega
  have h3 : ¬ (20000 : Int) < (len : Int) := by omega
  clear hs
  have HL := Lib.hid hl; clear hl
  have HG0 := Lib.hid (Box.make (Below.refl _ w) n a len cap)
  go_enter Try.func58, Try.ntmps58
  go_wp2_with fail
  go_loopw [22] (fun i wr => ∃ k : Nat, i = .int .i64 k ∧ k ≤ len ∧ Hid (Box w wr w.heap.size n a len cap) ∧ Hid ((l.take k).all (okA n) = true)) (fun i _ => len - (intOf i).toNat)
  case atStart => exact ⟨0, rfl, Nat.zero_le _, HG0, Lib.hid rfl⟩
  case round =>
    obtain ⟨k, rfl, hk, HG, HK⟩ := hrel
    clear HG0
    by_cases hlt : k < len
    · obtain ⟨b, off, x, rfl, hb, hx, e0, e1, e2⟩ := (HG.out.arcs HL.out).at_ hlt
      have HX := Lib.hid hx; clear hx hb
      have HA0 := Lib.hid (Arc1.make HG.out x)
      obtain ⟨f, t, c⟩ := x
      simp only at e0 e1 e2
      have b0 := (HG.out.alloc (.cells #[.int .i64 f, .int .i64 t, .int .i64 c] 88)).c0
      have b1 := (HG.out.alloc (.cells #[.int .i64 f, .int .i64 t, .int .i64 c] 88)).c1
      by_cases hf : 0 ≤ f ∧ f < n
      · by_cases ht : 0 ≤ t ∧ t < n
        · have HF := Lib.hid hf
          have HT := Lib.hid ht
          clear hf ht
          by_cases hc1 : c < -1099511627776
          · have HV := Lib.hid (checkV_bad HS.out HX.out (by simp [okA, hasB]; intros; omega))
            go_wp2_with (first
              | (go_at_call_of 59 (Value.int .i64 f); refine (has_yes HF.out _ _ _ _).mono ?_; rintro e w2 ⟨rfl, hb2⟩; have HA2 := Lib.hid (HA0.out.later hb2); have x0 := HA2.out.box.c0; have x1 := HA2.out.box.c1; have x2 := HA2.out.d1; clear hb2)
              | (go_at_call 59; refine (has_yes HT.out _ _ _ _).mono ?_; rintro e w3 ⟨rfl, hb3⟩; have HA3 := Lib.hid (HA2.out.later hb3); have y2 := HA3.out.d2; clear hb3))
            go_ret
            exact ⟨ret_num HV.out.symm, HA3.out.box.below⟩
          · by_cases hc2 : 1099511627776 < c
            · have HV := Lib.hid (checkV_bad HS.out HX.out (by simp [okA, hasB]; intros; omega))
              go_wp2_with (first
                | (go_at_call_of 59 (Value.int .i64 f); refine (has_yes HF.out _ _ _ _).mono ?_; rintro e w2 ⟨rfl, hb2⟩; have HA2 := Lib.hid (HA0.out.later hb2); have x0 := HA2.out.box.c0; have x1 := HA2.out.box.c1; have x2 := HA2.out.d1; clear hb2)
                | (go_at_call 59; refine (has_yes HT.out _ _ _ _).mono ?_; rintro e w3 ⟨rfl, hb3⟩; have HA3 := Lib.hid (HA2.out.later hb3); have y2 := HA3.out.d2; clear hb3))
              go_ret
              exact ⟨ret_num HV.out.symm, HA3.out.box.below⟩
            · have HN := Lib.hid (all_snoc HX.out HK.out (okA_true.2 ⟨HF.out, HT.out, by simp only; omega, by simp only; omega⟩))
              go_wp2_with (first
                | (go_at_call_of 59 (Value.int .i64 f); refine (has_yes HF.out _ _ _ _).mono ?_; rintro e w2 ⟨rfl, hb2⟩; have HA2 := Lib.hid (HA0.out.later hb2); have x0 := HA2.out.box.c0; have x1 := HA2.out.box.c1; have x2 := HA2.out.d1; clear hb2)
                | (go_at_call 59; refine (has_yes HT.out _ _ _ _).mono ?_; rintro e w3 ⟨rfl, hb3⟩; have HA3 := Lib.hid (HA2.out.later hb3); have y2 := HA3.out.d2; clear hb3))
              go_roundw
              case rel => exact ⟨k + 1, by go_num, by omega, Lib.hid HA3.out.box, HN⟩
              case measure => simp [intOf]; omega
        · have HF := Lib.hid hf
          have HV := Lib.hid (checkV_bad HS.out HX.out (by simp [okA, hasB]; intros; omega))
          have HT := Lib.hid ht
          clear hf ht
          go_wp2_with (first
            | (go_at_call_of 59 (Value.int .i64 f); refine (has_yes HF.out _ _ _ _).mono ?_; rintro e w2 ⟨rfl, hb2⟩; have HA2 := Lib.hid (HA0.out.later hb2); have x0 := HA2.out.box.c0; have x1 := HA2.out.box.c1; have x2 := HA2.out.d1; clear hb2)
            | (go_at_call 59; refine (has_no HT.out _ _ _ _).mono ?_; rintro e w3 ⟨rfl, hb3⟩; have HA3 := Lib.hid (HA2.out.later hb3); have y2 := HA3.out.d2; clear hb3))
          go_ret
          exact ⟨ret_num HV.out.symm, HA3.out.box.below⟩
      · have HV := Lib.hid (checkV_bad HS.out HX.out (by simp [okA, hasB]; intros; omega))
        have HF := Lib.hid hf
        clear hf
        go_wp2_with (go_at_call_of 59 (Value.int .i64 f); refine (has_no HF.out _ _ _ _).mono ?_; rintro e w2 ⟨rfl, hb2⟩; have HA2 := Lib.hid (HA0.out.later hb2); have x0 := HA2.out.box.c0; have x1 := HA2.out.box.c1; have x2 := HA2.out.d1; clear hb2)
        go_ret
        exact ⟨ret_num HV.out.symm, HA2.out.box.below⟩
    · have HV := Lib.hid (checkV_good HS.out HK.out (by have := HL.out.1; omega))
      go_wp2_with fail
      go_ret
      exact ⟨ret_num HV.out.symm, HG.out.below⟩

theorem gcheck_any (n : Int) (cap : Nat) (a : Option Addr) (w : World) (hl : IsArcs w.heap.size w a len l) :
    Calls Try.prog 58 #[.agg #[.int .i64 n, .slice a len cap]] w fun e w' => e = .returned (.int .i64 (checkV n l)) ∧ Below w.heap.size w w' := by
  by_cases hs : n < 0 ∨ 1000 < n ∨ (20000 : Int) < (len : Int)
  · rw [checkV_size (by have := hl.1; omega)]
    exact check_size hs cap a w
  · exact check_arcs hs cap a w hl
end Go.Proofs.Ytchdpapaojkbhaa
end
section
/- Package graph: next: for each node where the arcs from it lead. -/
namespace Go.Proofs.Ytchdpapaojkbhaa
open Go.RowKit

/-- Where arcs from node i lead. -/
def outs (l : List Ar) (i : Nat) : List Int := (l.filter (fun x => x.1 == (i : Int))).map (·.2.1)
theorem outs_snoc (l : List Ar) (x : Ar) (i : Nat) : outs (l ++ [x]) i = if x.1 = (i : Int) then outs l i ++ [x.2.1] else outs l i := by
  unfold outs
  rw [List.filter_append, List.map_append]
  by_cases h : x.1 = (i : Int) <;> simp [h]
theorem outs_take {l : List Ar} {k : Nat} {x : Ar} (h : l[k]? = some x) (i : Nat) : outs (l.take (k + 1)) i = if x.1 = (i : Int) then outs (l.take k) i ++ [x.2.1] else outs (l.take k) i := by
  rw [List.take_add_one, h]
  exact outs_snoc _ _ _
theorem outs_le (l : List Ar) (i : Nat) : (outs l i).length ≤ l.length := by
  unfold outs
  rw [List.length_map]
  exact List.length_filter_le _ _

variable {w wr w2 w4 : World} {a : Option Addr} {len cap B g L N g' cap' f : Nat} {l : List Ar} {n t : Int} {V : Nat → Value} {R : Nat → List Int} {o : Obj}
/-- Block L, new since B, is a row of N slices of numbers, each of them in a row of its own. -/
structure Adj (B : Nat) (w : World) (L N : Nat) (V : Nat → Value) (R : Nat → List Int) : Prop where
  ge : B ≤ L
  out : w.rowIs L 82 N V
  row : ∀ i, i < N → w.ownsRow (L + 1) 3 1 (V i) (R i).length (numsV (R i))
  apart : ∀ i j, i < N → j < N → i ≠ j → ∀ b, (V i).ownBlock = some b → (V j).ownBlock ≠ some b
theorem Adj.later (h : Adj B w L N V R) (hb : Below w.heap.size w w2) : Adj B w2 L N V R :=
  ⟨h.ge, rowIs_below h.out hb, fun i hi => owns_below (h.row i hi) hb, h.apart⟩
theorem Adj.kept {S : Nat → Prop} (h : Adj B w L N V R) (hm : Mod S w w2) (hs : ∀ k, L ≤ k → k < w.heap.size → ¬ S k) : Adj B w2 L N V R :=
  ⟨h.ge, h.out.of_block (hm.block L h.out.lt (hs L (Nat.le_refl _) h.out.lt)), fun i hi => owns_kept (h.row i hi) hm (fun k hk => hs k (by have := (World.ownsRow.lt (h.row i hi) k hk).1; omega) (World.ownsRow.lt (h.row i hi) k hk).2), h.apart⟩
theorem Adj.congr {R2 : Nat → List Int} (h : Adj B w L N V R) (e : ∀ i, i < N → R i = R2 i) : Adj B w L N V R2 :=
  ⟨h.ge, h.out, fun i hi => by rw [← e i hi]; exact h.row i hi, h.apart⟩
/-- One number more in row f. -/
theorem Adj.push (h : Adj B w L N V R) (hf : f < N) (hown : w4.ownsRow (L + 1) 3 1 (.slice (some ⟨g', 0, none⟩) ((R f).length + 1) cap') ((R f).length + 1) (numsV (R f) ++ [.int .i64 t]))
    (hgrow : w.grownBy w4 (V f).ownBlock) (hfr : (V f).ownBlock = some g' ∨ g' = w.heap.size) :
    Adj B (w4.setCell ⟨L, f, none⟩ (.slice (some ⟨g', 0, none⟩) ((R f).length + 1) cap')) L N (fun j => if j = f then .slice (some ⟨g', 0, none⟩) ((R f).length + 1) cap' else V j) (fun j => if j = f then R f ++ [t] else R j) ∧
    w4.cell? ⟨L, f, none⟩ = some (V f) ∧ w4.frozen? ⟨L, f, none⟩ = false := by
  have hlt : ∀ i, i < N → ∀ k, (V i).ownBlock = some k → L + 1 ≤ k ∧ k < w.heap.size := fun i hi k hk => World.ownsRow.lt (h.row i hi) k hk
  have ho4 : w4.rowIs L 82 N V := h.out.of_block (hgrow.block L h.out.lt (fun e => by have := (hlt f hf L e.symm).1; omega))
  refine ⟨⟨h.ge, ho4.set f _, fun i hi => ?_, fun i j hi hj hij b hb => ?_⟩, ho4.cell hf, ho4.frozen f⟩
  · by_cases e : i = f
    · subst e
      simp only [if_true, List.length_append, List.length_singleton, numsV_snoc]
      exact ownsRow_setCell_other hown (fun e => by have := (World.ownsRow.lt hown _ e).1; simp at this; omega) _
    · simp only [e, if_false]
      refine ownsRow_setCell_other ((h.row i hi).kept hgrow ?_) (fun e2 => by have := (hlt i hi _ e2).1; simp at this; omega) _
      cases hv : (V i).ownBlock with
      | none => exact .inl rfl
      | some b => exact .inr (fun e2 => h.apart i f hi hf e b hv (by rw [← e2]))
  · have new : ∀ b, some g' = some b → ∀ i, i < N → i ≠ f → (V i).ownBlock ≠ some b := fun b hb i hi hif he => by
      cases hb
      rcases hfr with hfr | hfr
      · exact h.apart i f hi hf hif g' he hfr
      · have := (hlt i hi _ he).2
        omega
    by_cases e1 : i = f
    · subst e1
      simp only [if_true] at hb
      rw [if_neg (fun e => hij e.symm)]
      exact new b hb j hj (fun e => hij e.symm)
    · rw [if_neg e1] at hb
      by_cases e2 : j = f
      · rw [if_pos e2]
        intro he
        exact new b he i hi e1 hb
      · rw [if_neg e2]
        exact h.apart i j hi hj hij b hb

theorem infoInt : (Try.prog.info? 3).map (fun i => (i.zero, i.size, i.bytes)) = some (some (.int .i64 0), 1, 8) := by kernel_rfl
theorem infoInts : (Try.prog.info? 82).map (fun i => (i.zero, i.size, i.bytes)) = some (some (.slice none 0 0), 1, 24) := by kernel_rfl
theorem infoBool : (Try.prog.info? 4).map (fun i => (i.zero, i.size, i.bytes)) = some (some (.bool false), 1, 1) := by kernel_rfl

theorem Adj.start (hL : wr.heap.size = L) (hB : B ≤ L) (N : Nat) : Adj B (wr.alloc (.cells (madeCells #[.slice none 0 0] N) 82)) L N (fun _ => .slice none 0 0) (outs (l.take 0)) := by
  subst hL
  exact ⟨hB, World.rowIs_made _ _ _ _, fun i _ => World.ownsRow_nil _ _ _ 1, fun i j _ _ _ b hb => by cases hb⟩

/-- What next's loop has. -/
structure NextW (w wr : World) (g : Nat) (n : Int) (a : Option Addr) (len cap : Nat) (L N : Nat) (V : Nat → Value) (R : Nat → List Int) : Prop where
  box : Box w wr g n a len cap
  adj : Adj w.heap.size wr L N V R
  lt : g < L
theorem NextW.later (h : NextW w wr g n a len cap L N V R) (hb : Below wr.heap.size wr w2) : NextW w w2 g n a len cap L N V R := ⟨h.box.later hb, h.adj.later hb, h.lt⟩
theorem NextW.push (h : NextW w wr g n a len cap L N V R) (hf : f < N) (hown : w4.ownsRow (L + 1) 3 1 (.slice (some ⟨g', 0, none⟩) ((R f).length + 1) cap') ((R f).length + 1) (numsV (R f) ++ [.int .i64 t]))
    (hgrow : wr.grownBy w4 (V f).ownBlock) (hfr : (V f).ownBlock = some g' ∨ g' = wr.heap.size) :
    NextW w (w4.setCell ⟨L, f, none⟩ (.slice (some ⟨g', 0, none⟩) ((R f).length + 1) cap')) g n a len cap L N (fun j => if j = f then .slice (some ⟨g', 0, none⟩) ((R f).length + 1) cap' else V j) (fun j => if j = f then R f ++ [t] else R j) := by
  have hlt : ∀ k, (V f).ownBlock = some k → L + 1 ≤ k ∧ k < wr.heap.size := fun k hk => World.ownsRow.lt (h.adj.row f hf) k hk
  have hge := h.adj.ge
  have hm : Mod (fun k => (V f).ownBlock = some k ∨ k = L) wr (w4.setCell ⟨L, f, none⟩ (.slice (some ⟨g', 0, none⟩) ((R f).length + 1) cap')) :=
    ((Mod.refl _ wr).grown hgrow (fun k hk => .inr (.inl hk))).setCell (p := ⟨L, f, none⟩) (.inr (.inr rfl)) _
  have hS : ∀ k, ((V f).ownBlock = some k ∨ k = L) → L ≤ k := fun k hk => by
    rcases hk with hk | hk
    · have := (hlt k hk).1; omega
    · omega
  refine ⟨⟨((Mod.of_below (fun k => (V f).ownBlock = some k ∨ k = L) h.box.below).trans hm).below (Nat.le_refl _) (fun k hk => Nat.le_trans hge (hS k hk)), h.box.ge, ?_⟩, (h.adj.push hf hown hgrow hfr).1, h.lt⟩
  rw [hm.block g h.box.lt (fun hk => by have := hS g hk; have := h.lt; omega)]
  exact h.box.blk
theorem NextW.congr {R2 : Nat → List Int} (h : NextW w wr g n a len cap L N V R) (e : ∀ i, i < N → R i = R2 i) : NextW w wr g n a len cap L N V R2 := ⟨h.box, h.adj.congr e, h.lt⟩
theorem push_outs {A C : List Int} {i f : Nat} {t : Int} {D : List Int} (h : C = if (f : Int) = (i : Int) then A ++ [t] else A) (hD : i = f → D = A) : (if i = f then D ++ [t] else A) = C := by
  rw [h]
  by_cases e : i = f
  · rw [if_pos e, if_pos (by omega), hD e]
  · rw [if_neg e, if_neg (by omega)]
end Go.Proofs.Ytchdpapaojkbhaa
end
