/- Package graph: Check. -/
import Derived.Test.YtgoegkajfhhcjaaGraph
namespace Go.Proofs.Ytgoegkajfhhcjaa
open Go.RowKit

/-- May this arc be, of n nodes? -/
def okA (n : Int) (x : Ar) : Bool := hasB n x.1 && hasB n x.2.1 && decide (-1099511627776 ≤ x.2.2 ∧ x.2.2 ≤ 1099511627776)
/-- What Check answers. -/
def checkV (n : Int) (l : List Ar) : Int := if n < 0 ∨ 1000 < n ∨ 20000 < l.length then 4 else if l.all (okA n) then 0 else 2
variable {w wr w2 : World} {a : Option Addr} {len cap B g : Nat} {l : List Ar} {n : Int} {k : Nat} {x : Ar}
theorem okA_true : okA n x = true ↔ (0 ≤ x.1 ∧ x.1 < n) ∧ (0 ≤ x.2.1 ∧ x.2.1 < n) ∧ -1099511627776 ≤ x.2.2 ∧ x.2.2 ≤ 1099511627776 := by
  simp [okA, hasB, and_assoc]
theorem checkV_size (h : n < 0 ∨ 1000 < n ∨ 20000 < l.length) : checkV n l = 4 := by rw [checkV, if_pos h]
theorem checkV_bad (h : ¬ (n < 0 ∨ 1000 < n ∨ 20000 < l.length)) (hx : l[k]? = some x) (hb : okA n x = false) : checkV n l = 2 := by
  rw [checkV, if_neg h, if_neg]
  intro h2
  have := List.all_eq_true.1 h2 x (List.mem_of_getElem? hx)
  rw [hb] at this
  cases this
theorem checkV_good (h : ¬ (n < 0 ∨ 1000 < n ∨ 20000 < l.length)) (hx : (l.take k).all (okA n) = true) (hk : l.length ≤ k) : checkV n l = 0 := by
  rw [checkV, if_neg h, if_pos]
  rwa [List.take_of_length_le hk] at hx
theorem checkV_zero : checkV n l = 0 ↔ (0 ≤ n ∧ n ≤ 1000 ∧ l.length ≤ 20000) ∧ ∀ x ∈ l, okA n x = true := by
  unfold checkV
  by_cases h : n < 0 ∨ 1000 < n ∨ 20000 < l.length
  · rw [if_pos h]
    constructor
    · intro h; cases h
    · intro h2; omega
  · rw [if_neg h]
    by_cases h2 : l.all (okA n) = true
    · rw [if_pos h2]
      exact ⟨fun _ => ⟨by omega, List.all_eq_true.1 h2⟩, fun _ => rfl⟩
    · rw [if_neg h2]
      constructor
      · intro h; cases h
      · intro h3; exact absurd (List.all_eq_true.2 h3.2) h2
theorem all_snoc (hx : l[k]? = some x) (h : (l.take k).all (okA n) = true) (hb : okA n x = true) : (l.take (k + 1)).all (okA n) = true := by
  rw [List.take_add_one, hx, List.all_append, h]
  simp [hb]
theorem ret_num {p q : Int} (h : p = q) : Ending.returned (.int .i64 p) = .returned (.int .i64 q) := by rw [h]

theorem check_size (hs : n < 0 ∨ 1000 < n ∨ (20000 : Int) < (len : Int)) (cap : Nat) (a : Option Addr) (w : World) :
    Calls Try.prog 19 #[.agg #[.int .i64 n, .slice a len cap]] w fun e w' => e = .returned (.int .i64 4) ∧ Below w.heap.size w w' := by
  by_cases h1 : n < 0
  · clear hs
    go_enter Try.func19, Try.ntmps19
    go_wp2_with fail
    go_ret
    exact ⟨rfl, (Below.refl _ _).alloc (Nat.le_refl _) _⟩
  · by_cases h2 : 1000 < n
    · clear hs
      go_enter Try.func19, Try.ntmps19
      go_wp2_with fail
      go_ret
      exact ⟨rfl, (Below.refl _ _).alloc (Nat.le_refl _) _⟩
    · have h3 : (20000 : Int) < (len : Int) := by omega
      clear hs
      go_enter Try.func19, Try.ntmps19
      go_wp2_with fail
      go_ret
      exact ⟨rfl, (Below.refl _ _).alloc (Nat.le_refl _) _⟩

/-- What a loop over the receiver's arcs has: the receiver's box; the arc of the round in a block of its own. -/
structure Arc1 (w wr : World) (g ab : Nat) (n : Int) (a : Option Addr) (len cap : Nat) (x : Ar) : Prop where
  box : Box w wr g n a len cap
  ge : w.heap.size ≤ ab
  blk : wr.heap[ab]? = some (.cells #[.int .i64 x.1, .int .i64 x.2.1, .int .i64 x.2.2] 35 (0, 0))
theorem Arc1.make (h : Box w wr g n a len cap) (x : Ar) : Arc1 w (wr.alloc (.cells #[.int .i64 x.1, .int .i64 x.2.1, .int .i64 x.2.2] 35)) g wr.heap.size n a len cap x :=
  ⟨h.alloc _, h.below.size, heap_alloc_new _ _⟩
theorem Arc1.later {ab : Nat} (h : Arc1 w wr g ab n a len cap x) (hb : Below wr.heap.size wr w2) : Arc1 w w2 g ab n a len cap x :=
  ⟨h.box.later hb, h.ge, (hb.block ab (Array.getElem?_eq_some_iff.1 h.blk).1).trans h.blk⟩
theorem Arc1.d0 {ab : Nat} (h : Arc1 w wr g ab n a len cap x) : wr.cell? ⟨ab, 0, none⟩ = some (.int .i64 x.1) := by simp [World.cell?, h.blk]
theorem Arc1.d1 {ab : Nat} (h : Arc1 w wr g ab n a len cap x) : wr.cell? ⟨ab, 1, none⟩ = some (.int .i64 x.2.1) := by simp [World.cell?, h.blk]
theorem Arc1.d2 {ab : Nat} (h : Arc1 w wr g ab n a len cap x) : wr.cell? ⟨ab, 2, none⟩ = some (.int .i64 x.2.2) := by simp [World.cell?, h.blk]

set_option maxHeartbeats 2000000 in
set_option maxRecDepth 100000 in
theorem check_arcs (hs : ¬ (n < 0 ∨ 1000 < n ∨ (20000 : Int) < (len : Int))) (cap : Nat) (a : Option Addr) (w : World) (hl : IsArcs w.heap.size w a len l) :
    Calls Try.prog 19 #[.agg #[.int .i64 n, .slice a len cap]] w fun e w' => e = .returned (.int .i64 (checkV n l)) ∧ Below w.heap.size w w' := by
  have HS : Hid (¬ (n < 0 ∨ 1000 < n ∨ 20000 < l.length)) := Lib.hid (by have := hl.1; omega)
  have h1 : ¬ n < 0 := by omega
  have h2 : ¬ 1000 < n := by omega
  have h3 : ¬ (20000 : Int) < (len : Int) := by omega
  clear hs
  have HL := Lib.hid hl; clear hl
  have HG0 := Lib.hid (Box.make (Below.refl _ w) n a len cap)
  go_enter Try.func19, Try.ntmps19
  go_wp2_with fail
  go_loopw [22] (fun i wr => ∃ k : Nat, i = .int .i64 k ∧ k ≤ len ∧ Hid (Box w wr w.heap.size n a len cap) ∧ Hid ((l.take k).all (okA n) = true)) (fun i _ => len - (intOf i).toNat)
  case atStart => exact ⟨0, rfl, Nat.zero_le _, HG0, Lib.hid rfl⟩
  case round =>
    obtain ⟨k, rfl, hk, HG, HK⟩ := hrel
    clear HG0
    by_cases hlt : k < len
    · obtain ⟨b, off, x, rfl, hb, hx, e0, e1, e2⟩ := (HG.out.arcs HL.out).at_ hlt
      have HX := Lib.hid hx; clear hx hb
      have HA0 := Lib.hid (Arc1.make HG.out x)
      obtain ⟨f, t, c⟩ := x
      simp only at e0 e1 e2
      have b0 := (HG.out.alloc (.cells #[.int .i64 f, .int .i64 t, .int .i64 c] 35)).c0
      have b1 := (HG.out.alloc (.cells #[.int .i64 f, .int .i64 t, .int .i64 c] 35)).c1
      by_cases hf : 0 ≤ f ∧ f < n
      · by_cases ht : 0 ≤ t ∧ t < n
        · have HF := Lib.hid hf
          have HT := Lib.hid ht
          clear hf ht
          by_cases hc1 : c < -1099511627776
          · have HV := Lib.hid (checkV_bad HS.out HX.out (by simp [okA, hasB]; intros; omega))
            go_wp2_with (first
              | (go_at_call_of 28 (Value.int .i64 f); refine (has_yes HF.out _ _ _ _).mono ?_; rintro e w2 ⟨rfl, hb2⟩; have HA2 := Lib.hid (HA0.out.later hb2); have x0 := HA2.out.box.c0; have x1 := HA2.out.box.c1; have x2 := HA2.out.d1; clear hb2)
              | (go_at_call 28; refine (has_yes HT.out _ _ _ _).mono ?_; rintro e w3 ⟨rfl, hb3⟩; have HA3 := Lib.hid (HA2.out.later hb3); have y2 := HA3.out.d2; clear hb3))
            go_ret
            exact ⟨ret_num HV.out.symm, HA3.out.box.below⟩
          · by_cases hc2 : 1099511627776 < c
            · have HV := Lib.hid (checkV_bad HS.out HX.out (by simp [okA, hasB]; intros; omega))
              go_wp2_with (first
                | (go_at_call_of 28 (Value.int .i64 f); refine (has_yes HF.out _ _ _ _).mono ?_; rintro e w2 ⟨rfl, hb2⟩; have HA2 := Lib.hid (HA0.out.later hb2); have x0 := HA2.out.box.c0; have x1 := HA2.out.box.c1; have x2 := HA2.out.d1; clear hb2)
                | (go_at_call 28; refine (has_yes HT.out _ _ _ _).mono ?_; rintro e w3 ⟨rfl, hb3⟩; have HA3 := Lib.hid (HA2.out.later hb3); have y2 := HA3.out.d2; clear hb3))
              go_ret
              exact ⟨ret_num HV.out.symm, HA3.out.box.below⟩
            · have HN := Lib.hid (all_snoc HX.out HK.out (okA_true.2 ⟨HF.out, HT.out, by simp only; omega, by simp only; omega⟩))
              go_wp2_with (first
                | (go_at_call_of 28 (Value.int .i64 f); refine (has_yes HF.out _ _ _ _).mono ?_; rintro e w2 ⟨rfl, hb2⟩; have HA2 := Lib.hid (HA0.out.later hb2); have x0 := HA2.out.box.c0; have x1 := HA2.out.box.c1; have x2 := HA2.out.d1; clear hb2)
                | (go_at_call 28; refine (has_yes HT.out _ _ _ _).mono ?_; rintro e w3 ⟨rfl, hb3⟩; have HA3 := Lib.hid (HA2.out.later hb3); have y2 := HA3.out.d2; clear hb3))
              go_roundw
              case rel => exact ⟨k + 1, by go_num, by omega, Lib.hid HA3.out.box, HN⟩
              case measure => simp [intOf]; omega
        · have HF := Lib.hid hf
          have HV := Lib.hid (checkV_bad HS.out HX.out (by simp [okA, hasB]; intros; omega))
          have HT := Lib.hid ht
          clear hf ht
          go_wp2_with (first
            | (go_at_call_of 28 (Value.int .i64 f); refine (has_yes HF.out _ _ _ _).mono ?_; rintro e w2 ⟨rfl, hb2⟩; have HA2 := Lib.hid (HA0.out.later hb2); have x0 := HA2.out.box.c0; have x1 := HA2.out.box.c1; have x2 := HA2.out.d1; clear hb2)
            | (go_at_call 28; refine (has_no HT.out _ _ _ _).mono ?_; rintro e w3 ⟨rfl, hb3⟩; have HA3 := Lib.hid (HA2.out.later hb3); have y2 := HA3.out.d2; clear hb3))
          go_ret
          exact ⟨ret_num HV.out.symm, HA3.out.box.below⟩
      · have HV := Lib.hid (checkV_bad HS.out HX.out (by simp [okA, hasB]; intros; omega))
        have HF := Lib.hid hf
        clear hf
        go_wp2_with (go_at_call_of 28 (Value.int .i64 f); refine (has_no HF.out _ _ _ _).mono ?_; rintro e w2 ⟨rfl, hb2⟩; have HA2 := Lib.hid (HA0.out.later hb2); have x0 := HA2.out.box.c0; have x1 := HA2.out.box.c1; have x2 := HA2.out.d1; clear hb2)
        go_ret
        exact ⟨ret_num HV.out.symm, HA2.out.box.below⟩
    · have HV := Lib.hid (checkV_good HS.out HK.out (by have := HL.out.1; omega))
      go_wp2_with fail
      go_ret
      exact ⟨ret_num HV.out.symm, HG.out.below⟩

theorem check_any (n : Int) (cap : Nat) (a : Option Addr) (w : World) (hl : IsArcs w.heap.size w a len l) :
    Calls Try.prog 19 #[.agg #[.int .i64 n, .slice a len cap]] w fun e w' => e = .returned (.int .i64 (checkV n l)) ∧ Below w.heap.size w w' := by
  by_cases hs : n < 0 ∨ 1000 < n ∨ (20000 : Int) < (len : Int)
  · rw [checkV_size (by have := hl.1; omega)]
    exact check_size hs cap a w
  · exact check_arcs hs cap a w hl
end Go.Proofs.Ytgoegkajfhhcjaa
