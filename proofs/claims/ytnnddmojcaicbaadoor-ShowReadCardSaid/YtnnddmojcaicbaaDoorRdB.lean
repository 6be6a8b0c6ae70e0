/- Joined: ReadIs, ReadNum, Run, Read. -/
import Derived.Test.YtnnddmojcaicbaaDoorReader
import Derived.Test.YtnnddmojcaicbaaDoorParse
import Derived.Deep.RegionHeld3
import Derived.Recover
import Derived.Laws.EntriesVeiled
import Derived.Lib.Builder
section
/- Package word: Is. -/
namespace Go.Proofs.YtnnddmojcaicbaaDoor
open Go.RowKit
variable {base R n k : Nat} {v : Value} {ws : List W} {at_ code : Int} {w w' : World}

theorem str_ext {x y : ByteArray} (h : x.toList = y.toList) : x = y := by
  apply ByteArray.ext
  apply Array.ext'
  rwa [Go.Lib.toList_data, Go.Lib.toList_data] at h
theorem str_ne {x y : ByteArray} (h : x ≠ y) : (x.toList == y.toList) = false := by
  simp
  exact fun g => h (str_ext g)

theorem is_end (h : Rd base R v ws n k at_ code w) (hk : ¬ k < ws.length) (x : ByteArray) : Calls Tryd.prog 51 #[ptrR R, .string x] w fun e w' => e = .returned (.bool false) ∧ ∃ m, w' = w.drewN m := by
  have HM : Hid (∀ m, Calls Tryd.prog 49 #[ptrR R] (w.drewN m) fun e w' => e = .returned (.bool false) ∧ ∃ j, w' = (w.drewN m).drewN j) := Lib.hid fun m => by
    have hm := more_any (h.drewN m)
    rwa [show decide (k < ws.length) = false from decide_eq_false hk] at hm
  clear h
  go_enter Tryd.func51, Tryd.ntmps51
  go_wp2
  go_quiet ((go_at_call 49; exact Calls.quiet_of (HM.out _)))
  go_wp2
  go_ret
  exact ⟨rfl, _, rfl⟩

theorem is_no (h : Rd base R v ws n k at_ code w) {t : List UInt8} {a : Nat} (hk : ws[k]? = some (t, a)) (x : ByteArray) (hx : (⟨t.toArray⟩ : ByteArray) ≠ x) : Calls Tryd.prog 51 #[ptrR R, .string x] w fun e w' => e = .returned (.bool false) ∧ ∃ m, w' = w.drewN m := by
  have hlt : k < ws.length := (List.getElem?_eq_some_iff.1 hk).1
  have HM : Hid (∀ m, Calls Tryd.prog 49 #[ptrR R] (w.drewN m) fun e w' => e = .returned (.bool true) ∧ ∃ j, w' = (w.drewN m).drewN j) := Lib.hid fun m => by
    have hm := more_any (h.drewN m)
    rwa [show decide (k < ws.length) = true from decide_eq_true hlt] at hm
  obtain ⟨c0, c1, c2, c3, c4, hf, hR⟩ := h.cells
  obtain ⟨g, cap, hv, hcl, hcm, e0, e1⟩ := h.word hk
  have hl := h.len
  subst hv
  unfold maxLen at hcm
  have hb : ((⟨t.toArray⟩ : ByteArray).toList == x.toList) = false := str_ne hx
  clear h hf c2 c3 c4 hk e1 hx
  generalize (⟨t.toArray⟩ : ByteArray) = y at *
  go_enter Tryd.func51, Tryd.ntmps51
  go_wp2
  go_quiet ((go_at_call 49; exact Calls.quiet_of (HM.out _)))
  go_wp2
  go_ret
  exact ⟨rfl, _, rfl⟩

theorem is_yes (h : Rd base R v ws n k at_ code w) {t : List UInt8} {a : Nat} (hk : ws[k]? = some (t, a)) : Calls Tryd.prog 51 #[ptrR R, .string ⟨t.toArray⟩] w fun e w' => e = .returned (.bool true) ∧ ∃ m, w' = (w.drewN m).setCell ⟨R, 1, none⟩ (.int .i64 ((k : Int) + 1)) := by
  have hlt : k < ws.length := (List.getElem?_eq_some_iff.1 hk).1
  have HM : Hid (∀ m, Calls Tryd.prog 49 #[ptrR R] (w.drewN m) fun e w' => e = .returned (.bool true) ∧ ∃ j, w' = (w.drewN m).drewN j) := Lib.hid fun m => by
    have hm := more_any (h.drewN m)
    rwa [show decide (k < ws.length) = true from decide_eq_true hlt] at hm
  obtain ⟨c0, c1, c2, c3, c4, hf, hR⟩ := h.cells
  obtain ⟨g, cap, hv, hcl, hcm, e0, e1⟩ := h.word hk
  have hl := h.len
  subst hv
  unfold maxLen at hcm
  have f1 := hf 1
  clear h hf c2 c3 c4 hk e1
  generalize (⟨t.toArray⟩ : ByteArray) = y at *
  go_enter Tryd.func51, Tryd.ntmps51
  go_wp2
  go_quiet ((go_at_call 49; exact Calls.quiet_of (HM.out _)))
  go_wp2
  go_ret
  exact ⟨rfl, _, rfl⟩
end Go.Proofs.YtnnddmojcaicbaaDoor
end
section
/- Package word: stop, Must, Number. -/
namespace Go.Proofs.YtnnddmojcaicbaaDoor
open Go.RowKit
variable {base R n k : Nat} {v : Value} {ws : List W} {at_ code : Int} {w w' : World}

/-- What a reader throws that can't go on. -/
abbrev haltV (R : Nat) : Value := .iface 112 (.agg #[ptrR R])
abbrev halted (R : Nat) : Ending := .panicked [{ v := haltV R, recovered := false }]

theorem Rd.stopped (h : Rd base R v ws n k at_ code w) (m : Nat) (p c : Int) : Rd base R v ws n k p c (((w.drewN m).setCell ⟨R, 3, none⟩ (.int .i64 p)).setCell ⟨R, 4, none⟩ (.int .i64 c)) := by
  have h0 : ((w.drewN m).heap[R]?) = _ := h.blk
  have h1 := set_block (o := 3) h0 (.int .i64 p)
  have h2 := set_block (o := 4) h1 (.int .i64 c)
  refine ⟨?_, ?_, h.apart, h.kle, h.len⟩
  · rw [h2]
    rfl
  · exact ownsRow_setCell_other (ownsRow_setCell_other (h.drewN m).row h.apart _) h.apart _
theorem Mod.two (w : World) (R m o p : Nat) (a b : Value) : Mod (· = R) w (((w.drewN m).setCell ⟨R, o, none⟩ a).setCell ⟨R, p, none⟩ b) :=
  (((Mod.refl (· = R) w).drewN m).setCell (p := ⟨R, o, none⟩) (.inr rfl) a).setCell (p := ⟨R, p, none⟩) (.inr rfl) b
theorem Mod.one (w : World) (R m o : Nat) (a : Value) : Mod (· = R) w ((w.drewN m).setCell ⟨R, o, none⟩ a) :=
  ((Mod.refl (· = R) w).drewN m).setCell (p := ⟨R, o, none⟩) (.inr rfl) a

theorem stop_any (h : Rd base R v ws n k at_ 0 w) (c : Int) : Calls Tryd.prog 52 #[ptrR R, .int .i64 c] w fun e w' =>
    e = halted R ∧ Rd base R v ws n k (placeN ws n k) c w' ∧ Mod (· = R) w w' := by
  have HP := Lib.hid (place_any h)
  have HE := Lib.hid fun m => And.intro (h.stopped m (placeN ws n k) c) (Mod.two w R m 3 4 (.int .i64 (placeN ws n k)) (.int .i64 c))
  obtain ⟨c0, c1, c2, c3, c4, hf, hR⟩ := h.cells
  have f3 := hf 3
  have f4 := hf 4
  clear h hf c0 c1 c2
  generalize (placeN ws n k : Int) = p at *
  go_enter Tryd.func52, Tryd.ntmps52
  go_wp2_with (go_at_call 50; refine HP.out.mono ?_; rintro e w' ⟨rfl, m, rfl⟩; clear HP)
  exact ⟨rfl, rfl, HE.out _⟩

theorem must_yes (h : Rd base R v ws n k at_ code w) {t : List UInt8} {a : Nat} (hk : ws[k]? = some (t, a)) : Calls Tryd.prog 29 #[ptrR R, .string ⟨t.toArray⟩] w fun e w' =>
    e = .returned (.tuple #[]) ∧ Rd base R v ws n (k + 1) at_ code w' ∧ Mod (· = R) w w' := by
  have HI := Lib.hid (is_yes h hk)
  have HE := Lib.hid fun m => And.intro ((h.drewN m).next (List.getElem?_eq_some_iff.1 hk).1) (Mod.one w R m 1 (.int .i64 ((k : Int) + 1)))
  clear h hk
  generalize (⟨t.toArray⟩ : ByteArray) = y at *
  go_enter Tryd.func29, Tryd.ntmps29
  go_wp2_with (go_at_call 51; refine HI.out.mono ?_; rintro e w' ⟨rfl, m, rfl⟩; clear HI)
  go_end0
  exact ⟨rfl, HE.out _⟩

theorem must_no (h : Rd base R v ws n k at_ 0 w) (x : ByteArray) (hx : ∀ t a, ws[k]? = some (t, a) → (⟨t.toArray⟩ : ByteArray) ≠ x) : Calls Tryd.prog 29 #[ptrR R, .string x] w fun e w' =>
    e = halted R ∧ Rd base R v ws n k (placeN ws n k) 5 w' ∧ Mod (· = R) w w' := by
  have HI : Hid (Calls Tryd.prog 51 #[ptrR R, .string x] w fun e w' => e = .returned (.bool false) ∧ ∃ m, w' = w.drewN m) := Lib.hid (by
    by_cases hk : k < ws.length
    · obtain ⟨⟨t, a⟩, hy⟩ : ∃ y, ws[k]? = some y := ⟨_, List.getElem?_eq_getElem hk⟩
      exact is_no h hy x (hx t a hy)
    · exact is_end h hk x)
  have HS := Lib.hid fun m => (stop_any (h.drewN m) 5).mono fun e w' ⟨h1, h2, h3⟩ => (⟨h1, h2, ((Mod.refl _ w).drewN m).trans h3⟩ : e = halted R ∧ Rd base R v ws n k (placeN ws n k) 5 w' ∧ Mod (· = R) w w')
  clear h hx
  go_enter Tryd.func29, Tryd.ntmps29
  go_wp2_with (first
    | (go_at_call 51; refine HI.out.mono ?_; rintro e w' ⟨rfl, m, rfl⟩; clear HI)
    | (go_at_call 52; refine (HS.out _).mono ?_; rintro e w' ⟨rfl, h1, h2⟩))
  exact ⟨rfl, rfl, h1, h2⟩

theorem Mod.belowR {R : Nat} {w w' : World} (h : Below w.heap.size w w') : Mod (· = R) w w' := Mod.of_below _ h
theorem number_end (h : Rd base R v ws n k at_ 0 w) (hk : ¬ k < ws.length) (lo hi : Int) : Calls Tryd.prog 32 #[ptrR R, .int .i64 lo, .int .i64 hi] w fun e w' =>
    e = halted R ∧ Rd base R v ws n k (placeN ws n k) 3 w' ∧ Mod (· = R) w w' := by
  have hm := more_any h
  rw [show decide (k < ws.length) = false from decide_eq_false hk] at hm
  have HM := Lib.hid hm; clear hm
  have HS := Lib.hid fun m => (stop_any (h.drewN m) 3).mono fun e w' ⟨h1, h2, h3⟩ => (⟨h1, h2, ((Mod.refl _ w).drewN m).trans h3⟩ : e = halted R ∧ Rd base R v ws n k (placeN ws n k) 3 w' ∧ Mod (· = R) w w')
  clear h hk
  go_enter Tryd.func32, Tryd.ntmps32
  go_wp2_with (first
    | (go_at_call 49; refine HM.out.mono ?_; rintro e w' ⟨rfl, m, rfl⟩; clear HM)
    | (go_at_call 52; refine (HS.out _).mono ?_; rintro e w' ⟨rfl, h1, h2⟩))
  exact ⟨rfl, rfl, h1, h2⟩

/-- What holds while a number's word is read. -/
structure NumS (base R g cap : Nat) (ws : List W) (n k : Nat) (at_ : Int) (t : List UInt8) (w W : World) : Prop where
  rd : Rd base R (.slice (some ⟨g, 0, none⟩) ws.length cap) ws n k at_ 0 W
  mod : Mod (· = R) w W
  word : W.cell? ⟨g, k * 2, none⟩ = some (.string ⟨t.toArray⟩)
variable {g cap : Nat} {t : List UInt8} {W1 W2 : World}
abbrev NumH (base R g cap : Nat) (ws : List W) (n k : Nat) (at_ : Int) (t : List UInt8) (w W : World) (y : ByteArray) : Prop :=
  W.cell? ⟨R, 0, none⟩ = some (.slice (some ⟨g, 0, none⟩) ws.length cap) ∧ W.cell? ⟨R, 1, none⟩ = some (.int .i64 (k : Int)) ∧ W.cell? ⟨g, k * 2, none⟩ = some (.string y) ∧ NumS base R g cap ws n k at_ t w W
theorem NumS.held (h : NumS base R g cap ws n k at_ t w W1) {y : ByteArray} (hy : Hid ((⟨t.toArray⟩ : ByteArray) = y)) : NumH base R g cap ws n k at_ t w W1 y :=
  ⟨h.rd.cells.1, h.rd.cells.2.1, by rw [← hy.out]; exact h.word, h⟩
theorem NumS.start (h : Rd base R v ws n k at_ 0 w) {a : Nat} (hk : ws[k]? = some (t, a)) : ∃ g cap, v = .slice (some ⟨g, 0, none⟩) ws.length cap ∧ ws.length ≤ cap ∧ cap ≤ maxLen ∧ ∀ m, NumS base R g cap ws n k at_ t w (w.drewN m) := by
  obtain ⟨g, cap, hv, hcl, hcm, e0, e1⟩ := h.word hk
  subst hv
  exact ⟨g, cap, rfl, hcl, hcm, fun m => ⟨h.drewN m, (Mod.refl _ w).drewN m, e0⟩⟩
theorem NumS.drew (h : NumS base R g cap ws n k at_ t w W1) : NumS base R g cap ws n k at_ t w W1.drew := ⟨h.rd.drew, h.mod.drew, h.word⟩
theorem NumS.drewN (h : NumS base R g cap ws n k at_ t w W1) (m : Nat) : NumS base R g cap ws n k at_ t w (W1.drewN m) := ⟨h.rd.drewN m, h.mod.drewN m, h.word⟩
theorem NumS.below (h : NumS base R g cap ws n k at_ t w W1) (hb : Below W1.heap.size W1 W2) : NumS base R g cap ws n k at_ t w W2 :=
  ⟨h.rd.below hb, h.mod.trans (Mod.of_below _ hb), (hb.cell (World.block_lt_of_cell? _ _ h.word)).trans h.word⟩
theorem NumS.later {y : ByteArray} (hy : Hid ((⟨t.toArray⟩ : ByteArray) = y)) (h : NumH base R g cap ws n k at_ t w W1 y) (hb : Below W1.heap.size W1 W2) : NumH base R g cap ws n k at_ t w W2 y := (h.2.2.2.below hb).held hy
theorem NumS.stops (h : NumS base R g cap ws n k at_ t w W1) (c : Int) : Calls Tryd.prog 52 #[ptrR R, .int .i64 c] W1 fun e w' =>
    e = halted R ∧ Rd base R (.slice (some ⟨g, 0, none⟩) ws.length cap) ws n k (placeN ws n k) c w' ∧ Mod (· = R) w w' :=
  (stop_any h.rd c).mono fun _ _ ⟨h1, h2, h3⟩ => ⟨h1, h2, h.mod.trans h3⟩

set_option maxHeartbeats 1000000 in
theorem number_bad (h : Rd base R v ws n k at_ 0 w) {t : List UInt8} {a : Nat} (hk : ws[k]? = some (t, a)) (ht : t.length ≤ 1000000) (hp : parseO t = none) (lo hi : Int) : Calls Tryd.prog 32 #[ptrR R, .int .i64 lo, .int .i64 hi] w fun e w' =>
    e = halted R ∧ Rd base R v ws n k (placeN ws n k) 3 w' ∧ Mod (· = R) w w' := by
  have hlt : k < ws.length := (List.getElem?_eq_some_iff.1 hk).1
  have hm := more_any h
  rw [show decide (k < ws.length) = true from decide_eq_true hlt] at hm
  have HM := Lib.hid hm; clear hm
  have hl := h.len
  obtain ⟨g, cap, hv, hcl, hcm, hnum⟩ := NumS.start h hk
  subst hv
  have HN := Lib.hid hnum
  have HPA : Hid (∀ W, Calls Tryd.prog 53 #[.string ⟨t.toArray⟩] W fun e w' => e = .returned (.tuple #[.int .i64 0, .bool false]) ∧ Below W.heap.size W w') := Lib.hid fun W => by
    have := parse_any ⟨t.toArray⟩ (by unfold maxLen; simp [ByteArray.size]; omega) W
    simpa [hp] using this
  obtain ⟨y, hy⟩ : ∃ y, (⟨t.toArray⟩ : ByteArray) = y := ⟨_, rfl⟩
  rw [hy] at HPA
  have HY := Lib.hid hy
  clear hy hp hk h ht hnum
  unfold maxLen at hcm
  go_enter Tryd.func32, Tryd.ntmps32
  go_wp2_with (go_at_call 49; refine HM.out.mono ?_; rintro e w' ⟨rfl, m, rfl⟩; clear HM)
  go_region_held3 (fun w' => NumH base R g cap ws n k at_ t w w' y) (first | assumption | exact (HN.out _).drew.held HY | exact NumS.later HY (by assumption) (by assumption))
    (first
      | (go_at_call 53; refine (HPA.out _).mono ?_; rintro e w' ⟨rfl, hb⟩))
  all_goals
    have hk2 := (by assumption : NumH base R g cap ws n k at_ t w _ y)
    have HS := Lib.hid hk2.2.2.2
    clear hk2
    go_wp2_with (go_at_call 52; refine (HS.out.stops 3).mono ?_; rintro e w' ⟨rfl, h1, h2⟩)
    exact ⟨rfl, rfl, h1, h2⟩

set_option maxHeartbeats 1000000 in
theorem number_low (h : Rd base R v ws n k at_ 0 w) {t : List UInt8} {a q : Nat} (hk : ws[k]? = some (t, a)) (ht : t.length ≤ 1000000) (hp : parseO t = some q) (lo hi : Int) (hq : (q : Int) < lo) : Calls Tryd.prog 32 #[ptrR R, .int .i64 lo, .int .i64 hi] w fun e w' =>
    e = halted R ∧ Rd base R v ws n k (placeN ws n k) 2 w' ∧ Mod (· = R) w w' := by
  have hlt : k < ws.length := (List.getElem?_eq_some_iff.1 hk).1
  have hm := more_any h
  rw [show decide (k < ws.length) = true from decide_eq_true hlt] at hm
  have HM := Lib.hid hm; clear hm
  have hl := h.len
  obtain ⟨g, cap, hv, hcl, hcm, hnum⟩ := NumS.start h hk
  subst hv
  have HN := Lib.hid hnum
  have HPA : Hid (∀ W, Calls Tryd.prog 53 #[.string ⟨t.toArray⟩] W fun e w' => e = .returned (.tuple #[.int .i64 (q : Int), .bool true]) ∧ Below W.heap.size W w') := Lib.hid fun W => by
    have := parse_any ⟨t.toArray⟩ (by unfold maxLen; simp [ByteArray.size]; omega) W
    simpa [hp] using this
  obtain ⟨y, hy⟩ : ∃ y, (⟨t.toArray⟩ : ByteArray) = y := ⟨_, rfl⟩
  rw [hy] at HPA
  have HY := Lib.hid hy
  clear hy hp hk h ht hnum
  unfold maxLen at hcm
  go_enter Tryd.func32, Tryd.ntmps32
  go_wp2_with (go_at_call 49; refine HM.out.mono ?_; rintro e w' ⟨rfl, m, rfl⟩; clear HM)
  go_region_held3 (fun w' => NumH base R g cap ws n k at_ t w w' y) (first | assumption | exact (HN.out _).drew.held HY | exact NumS.later HY (by assumption) (by assumption))
    (first
      | (go_at_call 53; refine (HPA.out _).mono ?_; rintro e w' ⟨rfl, hb⟩))
  all_goals
    have hk2 := (by assumption : NumH base R g cap ws n k at_ t w _ y)
    have HS := Lib.hid hk2.2.2.2
    clear hk2
    go_wp2_with (go_at_call 52; refine (HS.out.stops 2).mono ?_; rintro e w' ⟨rfl, h1, h2⟩)
    exact ⟨rfl, rfl, h1, h2⟩

set_option maxHeartbeats 1000000 in
theorem number_high (h : Rd base R v ws n k at_ 0 w) {t : List UInt8} {a q : Nat} (hk : ws[k]? = some (t, a)) (ht : t.length ≤ 1000000) (hp : parseO t = some q) (lo hi : Int) (hq : ¬ (q : Int) < lo) (hq2 : hi < (q : Int)) : Calls Tryd.prog 32 #[ptrR R, .int .i64 lo, .int .i64 hi] w fun e w' =>
    e = halted R ∧ Rd base R v ws n k (placeN ws n k) 2 w' ∧ Mod (· = R) w w' := by
  have hlt : k < ws.length := (List.getElem?_eq_some_iff.1 hk).1
  have hm := more_any h
  rw [show decide (k < ws.length) = true from decide_eq_true hlt] at hm
  have HM := Lib.hid hm; clear hm
  have hl := h.len
  obtain ⟨g, cap, hv, hcl, hcm, hnum⟩ := NumS.start h hk
  subst hv
  have HN := Lib.hid hnum
  have HPA : Hid (∀ W, Calls Tryd.prog 53 #[.string ⟨t.toArray⟩] W fun e w' => e = .returned (.tuple #[.int .i64 (q : Int), .bool true]) ∧ Below W.heap.size W w') := Lib.hid fun W => by
    have := parse_any ⟨t.toArray⟩ (by unfold maxLen; simp [ByteArray.size]; omega) W
    simpa [hp] using this
  obtain ⟨y, hy⟩ : ∃ y, (⟨t.toArray⟩ : ByteArray) = y := ⟨_, rfl⟩
  rw [hy] at HPA
  have HY := Lib.hid hy
  clear hy hp hk h ht hnum
  unfold maxLen at hcm
  go_enter Tryd.func32, Tryd.ntmps32
  go_wp2_with (go_at_call 49; refine HM.out.mono ?_; rintro e w' ⟨rfl, m, rfl⟩; clear HM)
  go_region_held3 (fun w' => NumH base R g cap ws n k at_ t w w' y) (first | assumption | exact (HN.out _).drew.held HY | exact NumS.later HY (by assumption) (by assumption))
    (first
      | (go_at_call 53; refine (HPA.out _).mono ?_; rintro e w' ⟨rfl, hb⟩))
  all_goals
    have hk2 := (by assumption : NumH base R g cap ws n k at_ t w _ y)
    have HS := Lib.hid hk2.2.2.2
    clear hk2
    go_wp2_with (go_at_call 52; refine (HS.out.stops 2).mono ?_; rintro e w' ⟨rfl, h1, h2⟩)
    exact ⟨rfl, rfl, h1, h2⟩

set_option maxHeartbeats 1000000 in
theorem number_yes (h : Rd base R v ws n k at_ 0 w) {t : List UInt8} {a q : Nat} (hk : ws[k]? = some (t, a)) (ht : t.length ≤ 1000000) (hp : parseO t = some q) (lo hi : Int) (hq : ¬ (q : Int) < lo) (hq2 : ¬ hi < (q : Int)) : Calls Tryd.prog 32 #[ptrR R, .int .i64 lo, .int .i64 hi] w fun e w' =>
    e = .returned (.int .i64 (q : Int)) ∧ Rd base R v ws n (k + 1) at_ 0 w' ∧ Mod (· = R) w w' := by
  have hlt : k < ws.length := (List.getElem?_eq_some_iff.1 hk).1
  have hm := more_any h
  rw [show decide (k < ws.length) = true from decide_eq_true hlt] at hm
  have HM := Lib.hid hm; clear hm
  have hl := h.len
  obtain ⟨g, cap, hv, hcl, hcm, hnum⟩ := NumS.start h hk
  subst hv
  have HN := Lib.hid hnum
  have HPA : Hid (∀ W, Calls Tryd.prog 53 #[.string ⟨t.toArray⟩] W fun e w' => e = .returned (.tuple #[.int .i64 (q : Int), .bool true]) ∧ Below W.heap.size W w') := Lib.hid fun W => by
    have := parse_any ⟨t.toArray⟩ (by unfold maxLen; simp [ByteArray.size]; omega) W
    simpa [hp] using this
  obtain ⟨y, hy⟩ : ∃ y, (⟨t.toArray⟩ : ByteArray) = y := ⟨_, rfl⟩
  rw [hy] at HPA
  have HY := Lib.hid hy
  clear hy hp hk h ht hnum
  unfold maxLen at hcm
  go_enter Tryd.func32, Tryd.ntmps32
  go_wp2_with (go_at_call 49; refine HM.out.mono ?_; rintro e w' ⟨rfl, m, rfl⟩; clear HM)
  go_region_held3 (fun w' => NumH base R g cap ws n k at_ t w w' y) (first | assumption | exact (HN.out _).drew.held HY | exact NumS.later HY (by assumption) (by assumption))
    (first
      | (go_at_call 53; refine (HPA.out _).mono ?_; rintro e w' ⟨rfl, hb⟩))
  all_goals
    have hk2 := (by assumption : NumH base R g cap ws n k at_ t w _ y)
    have HS := Lib.hid hk2.2.2.2
    have f1 := hk2.2.2.2.rd.cells.2.2.2.2.2.1 1
    have HE := Lib.hid (And.intro (hk2.2.2.2.rd.next hlt) (hk2.2.2.2.mod.setCell (p := ⟨R, 1, none⟩) (.inr rfl) (.int .i64 ((k : Int) + 1))))
    obtain ⟨c0, c1, c2, _⟩ := hk2
    go_wp2
    go_ret
    exact ⟨rfl, HE.out⟩
end Go.Proofs.YtnnddmojcaicbaaDoor
end
section
/- Package word: run, Read. -/
namespace Go.Proofs.YtnnddmojcaicbaaDoor
open Go.RowKit
variable {base R n k : Nat} {v : Value} {ws : List W} {at_ code : Int} {w w' : World}

theorem nil_nil (w : World) : (binOp .eql 20 .nilIface .nilIface).run Tryd.prog w = .ok (.bool true) w := by kernel_rfl
theorem halt_nil (R : Nat) (w : World) : (binOp .eql 20 (haltV R) .nilIface).run Tryd.prog w = .ok (.bool false) w := by kernel_rfl
theorem int_nil (n : Int) (w : World) : (binOp .eql 20 (.iface 2 (.int .i64 n)) .nilIface).run Tryd.prog w = .ok (.bool false) w := by kernel_rfl
theorem halt_is (R : Nat) (w : World) : (Instr.typeAssert (haltV R) 20 112 true).run Tryd.prog w = .ok (.tuple #[.agg #[ptrR R], .bool true]) w := by kernel_rfl
theorem int_isnt (n : Int) (w : World) : (Instr.typeAssert (.iface 2 (.int .i64 n)) 20 112 true).run Tryd.prog w = .ok (.tuple #[.agg #[.pointer none], .bool false]) w := by kernel_rfl

theorem same_ptr (a : Addr) (w : World) : (binOp .neq 75 (.pointer (some a)) (.pointer (some a))).run Tryd.prog w = .ok (.bool false) w := by
  obtain ⟨j, hj⟩ := Option.isSome_iff_exists.1 (by kernel_rfl : (Tryd.prog.info? 94).isSome = true)
  exact Lib.run_neq_ptr_same w a Tryd.underlying75 hj

theorem catch_idle (b : Nat) (w : World) :
    CallsD Tryd.prog 63 #[.pointer (some ⟨b, 0, none⟩)] .returning w fun e u' w' => e = .returned (.tuple #[]) ∧ u' = .returning ∧ w' = w := by
  have q := nil_nil
  refine callsD_of_wpS Tryd.func63 rfl fun c₀ cs hu => ?_
  apply wpS_seq
  apply wpS_region
  simp [wpOpsS, go_sem, recoverD, hu, Tryd.ntmps63, Exit.thenS, Array.replicate]
  refine wpS_of_wp ?_
  go_wp2
  cases c₀
  simp_all [bodyPostS, results, Tryd.results63]

theorem catch_halt (b R : Nat) (older : List PanicEntry) (w : World) (hb : w.cell? ⟨b, 0, none⟩ = some (ptrR R)) :
    CallsD Tryd.prog 63 #[.pointer (some ⟨b, 0, none⟩)] (.panicking ({ v := haltV R, recovered := false } :: older)) w fun e u' w' =>
      e = .returned (.tuple #[]) ∧ u' = .panicking ({ v := haltV R, recovered := true } :: older) ∧ Below w.heap.size w w' := by
  have q := halt_nil R
  have q2 := halt_is R
  have q3 := same_ptr ⟨R, 0, none⟩
  have hb2 : (w.alloc (.cells #[.pointer (some ⟨R, 0, none⟩)] 112)).cell? ⟨b, 0, none⟩ = some (.pointer (some ⟨R, 0, none⟩)) := (World.cell?_alloc_past _ _ _ (World.block_lt_of_cell? _ _ hb)).trans hb
  clear hb
  refine callsD_of_wpS Tryd.func63 rfl fun c₀ cs hu => ?_
  apply wpS_seq
  apply wpS_region
  simp [wpOpsS, go_sem, recoverD, hu, Tryd.ntmps63, Exit.thenS, Array.replicate]
  refine wpS_of_wp ?_
  go_wp2
  simp [bodyPostS, results, Tryd.results63]
  exact (Below.refl _ _).alloc (Nat.le_refl _) _
theorem catch_other (b : Nat) (m : Int) (older : List PanicEntry) (w : World) :
    CallsD Tryd.prog 63 #[.pointer (some ⟨b, 0, none⟩)] (.panicking ({ v := .iface 2 (.int .i64 m), recovered := false } :: older)) w fun e u' w' =>
      e = .panicked [{ v := .iface 2 (.int .i64 m), recovered := false }] ∧ u' = .panicking ({ v := .iface 2 (.int .i64 m), recovered := true } :: older) ∧ Below w.heap.size w w' := by
  have q := int_nil m
  have q2 := int_isnt m
  refine callsD_of_wpS Tryd.func63 rfl fun c₀ cs hu => ?_
  apply wpS_seq
  apply wpS_region
  simp [wpOpsS, go_sem, recoverD, hu, Tryd.ntmps63, Exit.thenS, Array.replicate]
  refine wpS_of_wp ?_
  go_wp2
  simp [bodyPostS]
  exact (Below.refl _ _).alloc (Nat.le_refl _) _

/-- The function that is handed in has a body. -/
def Body (F : Nat) : Prop := ∀ (args : Array Value) (w : World), (callFunc F args).run Tryd.prog w = .ok (.enter F args) w
/-- What is done with a reader, where it comes back. -/
theorem run_ret (F : Nat) (hF : Body F) (cap : Array Value) (Post : World → Prop) (w : World)
    (hdo : Calls Tryd.prog F (#[ptrR R] ++ cap) (w.alloc (.cells #[ptrR R] 75)) fun e w' => e = .returned (.tuple #[]) ∧ Post w') :
    Calls Tryd.prog 48 #[ptrR R, .func (.func F) #[] cap] w fun e w' => e = .returned (.tuple #[]) ∧ Post w' := by
  have hmf : ∀ (fn : Fn) (first cap : Array Value) (w : World), (Instr.makeFunc fn first cap).run Tryd.prog w = .ok (.func fn first cap) w := fun _ _ _ _ => rfl
  have HD := Lib.hid hdo
  clear hdo
  unfold Body at hF
  go_enter_defers Tryd.func48, Tryd.ntmps48
  go_wp2_with fail
  refine HD.out.mono ?_
  rintro e w' ⟨rfl, hp⟩
  have HP := Lib.hid hp
  clear hp HD hF
  go_wp2
  refine leaves_cons (f := 63) (args := #[.pointer (some ⟨w.heap.size, 0, none⟩)]) (by simp) (by simp [go_sem]) ?_
  refine (catch_idle w.heap.size _).mono ?_
  rintro e u' w'' ⟨rfl, rfl, rfl⟩
  simp [Leaves, settle, results, Tryd.results48, go_sem]
  exact HP.out
/-- .. where it can't go on. -/
theorem run_halt (F : Nat) (hF : Body F) (cap : Array Value) (Post : World → Prop) (w : World)
    (hdo : Calls Tryd.prog F (#[ptrR R] ++ cap) (w.alloc (.cells #[ptrR R] 75)) fun e w' => e = halted R ∧ Post w' ∧ w'.cell? ⟨w.heap.size, 0, none⟩ = some (ptrR R)) :
    Calls Tryd.prog 48 #[ptrR R, .func (.func F) #[] cap] w fun e w' => e = .returned (.tuple #[]) ∧ ∃ w1, Post w1 ∧ Below w1.heap.size w1 w' := by
  have hmf : ∀ (fn : Fn) (first cap : Array Value) (w : World), (Instr.makeFunc fn first cap).run Tryd.prog w = .ok (.func fn first cap) w := fun _ _ _ _ => rfl
  have HD := Lib.hid hdo
  clear hdo
  unfold Body at hF
  go_enter_defers Tryd.func48, Tryd.ntmps48
  go_wp2_with fail
  refine HD.out.mono ?_
  rintro e w' ⟨rfl, hp, hc⟩
  have HP := Lib.hid hp
  clear hp HD hF
  go_wp2
  refine leaves_cons (f := 63) (args := #[.pointer (some ⟨w.heap.size, 0, none⟩)]) (by simp) (by simp [go_sem]) ?_
  refine (catch_halt w.heap.size R [] _ hc).mono ?_
  rintro e u' w'' ⟨rfl, rfl, hb⟩
  simp [Leaves, settle, results, Tryd.results48, go_sem]
  exact ⟨_, HP.out, hb⟩
/-- .. where something else is thrown. -/
theorem run_other (F : Nat) (hF : Body F) (cap : Array Value) (Post : World → Prop) (m : Int) (w : World)
    (hdo : Calls Tryd.prog F (#[ptrR R] ++ cap) (w.alloc (.cells #[ptrR R] 75)) fun e w' => e = .panicked [{ v := .iface 2 (.int .i64 m), recovered := false }] ∧ Post w') :
    Calls Tryd.prog 48 #[ptrR R, .func (.func F) #[] cap] w fun e w' =>
      e = .panicked [{ v := .iface 2 (.int .i64 m), recovered := false }, { v := .iface 2 (.int .i64 m), recovered := true }] ∧ ∃ w1, Post w1 ∧ Below w1.heap.size w1 w' := by
  have hmf : ∀ (fn : Fn) (first cap : Array Value) (w : World), (Instr.makeFunc fn first cap).run Tryd.prog w = .ok (.func fn first cap) w := fun _ _ _ _ => rfl
  have HD := Lib.hid hdo
  clear hdo
  unfold Body at hF
  go_enter_defers Tryd.func48, Tryd.ntmps48
  go_wp2_with fail
  refine HD.out.mono ?_
  rintro e w' ⟨rfl, hp⟩
  have HP := Lib.hid hp
  clear hp HD hF
  go_wp2
  refine leaves_cons (f := 63) (args := #[.pointer (some ⟨w.heap.size, 0, none⟩)]) (by simp) (by simp [go_sem]) ?_
  refine (catch_other w.heap.size m [] _).mono ?_
  rintro e u' w'' ⟨rfl, rfl, hb⟩
  simp [Leaves, raised, go_sem]
  exact ⟨_, HP.out, hb⟩
end Go.Proofs.YtnnddmojcaicbaaDoor
end
section
/- Package word: Read. -/
namespace Go.Proofs.YtnnddmojcaicbaaDoor
open Go.RowKit
variable {base R n k : Nat} {v : Value} {ws : List W} {at_ code : Int} {w w' : World}

theorem nilF_neq (w : World) : (binOp .neq 83 .nilFunc .nilFunc).run Tryd.prog w = .ok (.bool false) w := by kernel_rfl
theorem func_neq (fn : Fn) (first cap : Array Value) (w : World) : (binOp .neq 83 (.func fn first cap) .nilFunc).run Tryd.prog w = .ok (.bool true) w := by kernel_rfl

/-- A text that can't be read: whatever is to be done. -/
theorem read_big (s : ByteArray) (f : Value) (w : World) (hs : 131072 < s.size) (hm : s.size ≤ 9223372036854775807) :
    Calls Tryd.prog 27 #[.string s, f] w fun e w' => e = .returned (.tuple #[.int .i64 0, .int .i64 4]) ∧ w = w' := by
  have HS := Lib.hid (split_big s w hs hm)
  go_enter Tryd.func27, Tryd.ntmps27
  go_wp2_with (go_at_call 47; refine HS.out.mono ?_; rintro e w' ⟨rfl, rfl⟩; clear HS)
  go_ret2
  exact ⟨rfl, rfl⟩
theorem read_bad (s : ByteArray) (f : Value) (w : World) (hs : s.size ≤ 131072) (hb : toN badB s.data.toList < s.size) :
    Calls Tryd.prog 27 #[.string s, f] w fun e w' => e = .returned (.tuple #[.int .i64 (toN badB s.data.toList : Nat), .int .i64 3]) ∧ w = w' := by
  have HS := Lib.hid (split_bad s w hs hb)
  generalize toN badB s.data.toList = q at *
  go_enter Tryd.func27, Tryd.ntmps27
  go_wp2_with (go_at_call 47; refine HS.out.mono ?_; rintro e w' ⟨rfl, rfl⟩; clear HS)
  go_ret2
  exact ⟨rfl, rfl⟩

/-- A reader that has just been made. -/
theorem Rd.made (T : TypeId) (hT : T = 94) {w w1 : World} {v : Value} {ws : List W} (n : Nat) (hr : WRow 100 w1 w.heap.size v ws) (_hb : Below w.heap.size w w1) (hl : ws.length ≤ 1000000) :
    Rd w.heap.size w1.heap.size v ws n 0 0 0 (w1.alloc (.cells #[v, .int .i64 0, .int .i64 (n : Int), .int .i64 0, .int .i64 0] T)) := by
  subst hT
  refine ⟨heap_alloc_new _ _, hr.below ((Below.refl _ _).alloc (Nat.le_refl _) _), fun e => ?_, Nat.zero_le _, hl⟩
  have := (World.ownsRow.lt hr _ e).2
  omega

theorem words_few (s : ByteArray) (hs : s.size ≤ 131072) : (cutL s.data.toList 0).length ≤ 1000000 := by
  have := cutL_length s.data.toList.length s.data.toList 0 (Nat.le_refl _)
  have h2 : s.data.toList.length = s.size := by simp
  omega

/-- What Read answers where the reader has come to word k with no error. -/
def endAt (ws : List W) (n k : Nat) : Nat := if k < ws.length then placeN ws n k else 0
def endCode (ws : List W) (k : Nat) : Int := if k < ws.length then 6 else 0

theorem ret_two {p p' : Nat} {c c' : Int} (h : p = p') (g : c = c') : Ending.returned (.tuple #[.int .i64 (p : Int), .int .i64 c]) = .returned (.tuple #[.int .i64 (p' : Int), .int .i64 c']) := by rw [h, g]
theorem read_none (s : ByteArray) (w : World) (hs : s.size ≤ 131072) (hb : toN badB s.data.toList = s.size) :
    Calls Tryd.prog 27 #[.string s, .nilFunc] w fun e w' => e = .returned (.tuple #[.int .i64 (endAt (cutL s.data.toList 0) s.size 0 : Nat), .int .i64 (endCode (cutL s.data.toList 0) 0)]) ∧ Below w.heap.size w w' := by
  have HS := Lib.hid (split_good s w hs hb)
  have hl := words_few s hs
  have q := nilF_neq
  generalize cutL s.data.toList 0 = ws at *
  have HE : Hid ((endAt ws s.size 0 = if 0 < ws.length then placeN ws s.size 0 else 0) ∧ (endCode ws 0 = if 0 < ws.length then 6 else 0)) := Lib.hid ⟨rfl, rfl⟩
  generalize endAt ws s.size 0 = p at *
  generalize endCode ws 0 = c at *
  clear hb
  go_enter Tryd.func27, Tryd.ntmps27
  go_wp2_with fail
  refine HS.out.mono ?_
  rintro e w1 ⟨v, rfl, hr, hb⟩
  obtain ⟨va, vc, hv⟩ := hr.shape
  subst hv
  have HR := Lib.hid (Rd.made 94 rfl s.size hr hb hl)
  have HB := Lib.hid (hb.alloc (o := .cells #[.slice va ws.length vc, .int .i64 0, .int .i64 (s.size : Int), .int .i64 0, .int .i64 0] 94) hb.size)
  have HMo : Hid (Calls Tryd.prog 49 #[ptrR w1.heap.size] (w1.alloc (.cells #[.slice va ws.length vc, .int .i64 0, .int .i64 (s.size : Int), .int .i64 0, .int .i64 0] 94)) fun e w' => e = .returned (.bool (decide (0 < ws.length))) ∧ ∃ m, w' = (w1.alloc (.cells #[.slice va ws.length vc, .int .i64 0, .int .i64 (s.size : Int), .int .i64 0, .int .i64 0] 94)).drewN m) := Lib.hid (more_any HR.out)
  clear hr hb hl HS
  by_cases h0 : 0 < ws.length
  · rw [show decide (0 < ws.length) = true from decide_eq_true h0] at HMo
    rw [if_pos h0, if_pos h0] at HE
    clear h0
    go_wp2_with (first
      | (go_at_call 49; refine HMo.out.mono ?_; rintro e w' ⟨rfl, m, rfl⟩; clear HMo)
      | (go_at_call 50; refine (place_any (HR.out.drewN _)).mono ?_; rintro e w' ⟨rfl, m2, rfl⟩))
    go_ret2
    exact ⟨ret_two HE.out.1.symm HE.out.2.symm, below_drewN HB.out _⟩
  · rw [show decide (0 < ws.length) = false from decide_eq_false h0] at HMo
    rw [if_neg h0, if_neg h0] at HE
    clear h0
    go_wp2_with (first
      | (go_at_call 49; refine HMo.out.mono ?_; rintro e w' ⟨rfl, m, rfl⟩; clear HMo))
    go_ret2
    exact ⟨ret_two (p := 0) HE.out.1.symm HE.out.2.symm, below_drewN HB.out _⟩

/-- What is known of a call of what is to be done with a reader: how it ends, where the reader stands then, what becomes of the caller's own memory. -/
def Does (F : Nat) (cap : Array Value) (w : World) (ws : List W) (n : Nat) (E : Nat → Ending) (k : Nat) (at_ code : Int) (C : Nat → Prop) (X : World → Prop) : Prop :=
  ∀ R v W, w.heap.size ≤ R → Rd w.heap.size R v ws n 0 0 0 W → Below w.heap.size w W →
    Calls Tryd.prog F (#[ptrR R] ++ cap) W fun e w' => e = E R ∧ Rd w.heap.size R v ws n k at_ code w' ∧ Mod (fun b => b = R ∨ C b) W w' ∧ X w'
/-- A fact on memory that new blocks don't touch. -/
def Stable (X : World → Prop) : Prop := ∀ a b, X a → Below a.heap.size a b → X b

/-- What Read knows behind run. -/
structure Ran (w : World) (R : Nat) (v : Value) (ws : List W) (n k : Nat) (at_ code : Int) (C : Nat → Prop) (X : World → Prop) (w' : World) : Prop where
  rd : Rd w.heap.size R v ws n k at_ code w'
  mod : Mod C w w'
  x : X w'
theorem Ran.later {R : Nat} {C : Nat → Prop} {X : World → Prop} {w1 : World} (hX : Stable X) (h : Ran w R v ws n k at_ code C X w1) (hb : Below w1.heap.size w1 w') : Ran w R v ws n k at_ code C X w' :=
  ⟨h.rd.below hb, h.mod.trans (Mod.of_below _ hb), hX _ _ h.x hb⟩
theorem Ran.drewN {R : Nat} {C : Nat → Prop} {X : World → Prop} (hX : Stable X) (h : Ran w R v ws n k at_ code C X w') (m : Nat) : Ran w R v ws n k at_ code C X (w'.drewN m) := h.later hX (below_drewN (Below.refl _ _) m)

/-- Behind Split and the making of the reader: what run is given. -/
theorem does_at {F : Nat} {cap : Array Value} {w Wd : World} {ws : List W} {n R : Nat} {v : Value} {E : Nat → Ending} {k : Nat} {at_ code : Int} {C : Nat → Prop} {X : World → Prop} (hC : ∀ b, C b → b < w.heap.size) (hd : Does F cap w ws n E k at_ code C X)
    (hR : w.heap.size ≤ R) (hr : Rd w.heap.size R v ws n 0 0 0 Wd) (hb : Below w.heap.size w Wd) :
    Calls Tryd.prog F (#[ptrR R] ++ cap) (Wd.alloc (.cells #[ptrR R] 75)) fun e w' => e = E R ∧ Ran w R v ws n k at_ code C X w' ∧ w'.cell? ⟨Wd.heap.size, 0, none⟩ = some (ptrR R) := by
  have hb' : Below Wd.heap.size Wd (Wd.alloc (.cells #[ptrR R] 75)) := (Below.refl _ _).alloc (Nat.le_refl _) _
  refine (hd R v _ hR (hr.below hb') (hb.trans (hb'.mono hb.size))).mono fun e w' ⟨h1, h2, h3, h4⟩ => ⟨h1, ⟨h2, ?_, h4⟩, ?_⟩
  · refine (Mod.of_below _ (hb.trans (hb'.mono hb.size))).then_ h3 (fun i hi hs => hs.elim (fun e => absurd hR (by omega)) id)
  · have hlt := hr.lt
    have hsz := hb.size
    rw [h3.cell (by simp) (fun hs => hs.elim (fun e => by simp at e; omega) (fun e => by have := hC _ e; simp at this; omega))]
    simp

theorem read_ret (s : ByteArray) (w : World) (hs : s.size ≤ 131072) (hb : toN badB s.data.toList = s.size) (F : Nat) (hF : Body F) (cap : Array Value) (k : Nat) (at_ : Int) (C : Nat → Prop) (hC : ∀ b, C b → b < w.heap.size) (X : World → Prop) (hX : Stable X)
    (hd : Does F cap w (cutL s.data.toList 0) s.size (fun _ => .returned (.tuple #[])) k at_ 0 C X) :
    Calls Tryd.prog 27 #[.string s, .func (.func F) #[] cap] w fun e w' => e = .returned (.tuple #[.int .i64 (endAt (cutL s.data.toList 0) s.size k : Nat), .int .i64 (endCode (cutL s.data.toList 0) k)]) ∧ Mod C w w' ∧ X w' := by
  have HS := Lib.hid (split_good s w hs hb)
  have hl := words_few s hs
  have q := func_neq
  generalize cutL s.data.toList 0 = ws at *
  have HE : Hid ((endAt ws s.size k = if k < ws.length then placeN ws s.size k else 0) ∧ (endCode ws k = if k < ws.length then 6 else 0)) := Lib.hid ⟨rfl, rfl⟩
  generalize endAt ws s.size k = p at *
  generalize endCode ws k = c at *
  have HD := Lib.hid hd
  have HX := Lib.hid hX
  clear hb hd hX
  go_enter Tryd.func27, Tryd.ntmps27
  go_wp2_with fail
  refine HS.out.mono ?_
  rintro e w1 ⟨v, rfl, hr, hb⟩
  obtain ⟨va, vc, hv⟩ := hr.shape
  subst hv
  have HR := Lib.hid (Rd.made 94 rfl s.size hr hb hl)
  have HB := Lib.hid (hb.alloc (o := .cells #[.slice va ws.length vc, .int .i64 0, .int .i64 (s.size : Int), .int .i64 0, .int .i64 0] 94) hb.size)
  have HRun := Lib.hid (run_ret F hF cap _ _ ((does_at hC HD.out hb.size HR.out HB.out).mono fun e w' ⟨h1, h2, _⟩ => (⟨h1, h2⟩ : e = Ending.returned (.tuple #[]) ∧ Ran w w1.heap.size (.slice va ws.length vc) ws s.size k at_ 0 C X w')))
  clear hr hb hl HS HD HR HB
  go_wp2_with (go_at_call 48; refine HRun.out.mono ?_; rintro e w2 ⟨rfl, hran⟩; have HRan := Lib.hid hran; obtain ⟨c0, c1, c2, c3, c4, _, _⟩ := hran.rd.cells; clear hran HRun)
  have HMo := Lib.hid (more_any HRan.out.rd)
  clear c0 c1 c2 c3
  by_cases h0 : k < ws.length
  · rw [show decide (k < ws.length) = true from decide_eq_true h0] at HMo
    rw [if_pos h0, if_pos h0] at HE
    clear h0
    go_wp2_with (first
      | (go_at_call 49; refine HMo.out.mono ?_; rintro e w' ⟨rfl, m, rfl⟩; clear HMo)
      | (go_at_call 50; refine (place_any (HRan.out.rd.drewN _)).mono ?_; rintro e w' ⟨rfl, m2, rfl⟩))
    go_ret2
    have h := HRan.out.drewN HX.out (m + m2)
    exact ⟨ret_two HE.out.1.symm HE.out.2.symm, h.mod, h.x⟩
  · rw [show decide (k < ws.length) = false from decide_eq_false h0] at HMo
    rw [if_neg h0, if_neg h0] at HE
    clear h0
    go_wp2_with (go_at_call 49; refine HMo.out.mono ?_; rintro e w' ⟨rfl, m, rfl⟩; clear HMo)
    go_ret2
    have h := HRan.out.drewN HX.out m
    exact ⟨ret_two (p := 0) HE.out.1.symm HE.out.2.symm, h.mod, h.x⟩

theorem read_halt (s : ByteArray) (w : World) (hs : s.size ≤ 131072) (hb : toN badB s.data.toList = s.size) (F : Nat) (hF : Body F) (cap : Array Value) (k : Nat) (p c : Int) (hc : (c != 0) = true) (C : Nat → Prop) (hC : ∀ b, C b → b < w.heap.size) (X : World → Prop) (hX : Stable X)
    (hd : Does F cap w (cutL s.data.toList 0) s.size halted k p c C X) :
    Calls Tryd.prog 27 #[.string s, .func (.func F) #[] cap] w fun e w' => e = .returned (.tuple #[.int .i64 p, .int .i64 c]) ∧ Mod C w w' ∧ X w' := by
  have HS := Lib.hid (split_good s w hs hb)
  have hl := words_few s hs
  have q := func_neq
  generalize cutL s.data.toList 0 = ws at *
  have HD := Lib.hid hd
  have HX := Lib.hid hX
  clear hb hd hX
  go_enter Tryd.func27, Tryd.ntmps27
  go_wp2_with fail
  refine HS.out.mono ?_
  rintro e w1 ⟨v, rfl, hr, hb⟩
  obtain ⟨va, vc, hv⟩ := hr.shape
  subst hv
  have HR := Lib.hid (Rd.made 94 rfl s.size hr hb hl)
  have HB := Lib.hid (hb.alloc (o := .cells #[.slice va ws.length vc, .int .i64 0, .int .i64 (s.size : Int), .int .i64 0, .int .i64 0] 94) hb.size)
  have HRun := Lib.hid (run_halt F hF cap _ _ (does_at hC HD.out hb.size HR.out HB.out))
  clear hr hb hl HS HD HR HB
  go_wp2_with (go_at_call 48; refine HRun.out.mono ?_; rintro e w2 ⟨rfl, w3, hran, hb3⟩; have HRan := Lib.hid (hran.later HX.out hb3); obtain ⟨c0, c1, c2, c3, c4, _, _⟩ := HRan.out.rd.cells; clear hran hb3 HRun c0 c1 c2)
  go_quiet (fail)
  go_wp2
  go_ret2
  have h := HRan.out.drewN HX.out nq
  exact ⟨rfl, h.mod, h.x⟩

/-- What else is thrown is thrown on. -/
theorem read_other (s : ByteArray) (w : World) (hs : s.size ≤ 131072) (hb : toN badB s.data.toList = s.size) (F : Nat) (hF : Body F) (cap : Array Value) (k : Nat) (p c : Int) (m : Int) (C : Nat → Prop) (hC : ∀ b, C b → b < w.heap.size) (X : World → Prop) (hX : Stable X)
    (hd : Does F cap w (cutL s.data.toList 0) s.size (fun _ => .panicked [{ v := .iface 2 (.int .i64 m), recovered := false }]) k p c C X) :
    Calls Tryd.prog 27 #[.string s, .func (.func F) #[] cap] w fun e w' =>
      e = .panicked [{ v := .iface 2 (.int .i64 m), recovered := false }, { v := .iface 2 (.int .i64 m), recovered := true }] ∧ Mod C w w' ∧ X w' := by
  have HS := Lib.hid (split_good s w hs hb)
  have hl := words_few s hs
  have q := func_neq
  generalize cutL s.data.toList 0 = ws at *
  have HD := Lib.hid hd
  have HX := Lib.hid hX
  clear hb hd hX
  go_enter Tryd.func27, Tryd.ntmps27
  go_wp2_with fail
  refine HS.out.mono ?_
  rintro e w1 ⟨v, rfl, hr, hb⟩
  obtain ⟨va, vc, hv⟩ := hr.shape
  subst hv
  have HR := Lib.hid (Rd.made 94 rfl s.size hr hb hl)
  have HB := Lib.hid (hb.alloc (o := .cells #[.slice va ws.length vc, .int .i64 0, .int .i64 (s.size : Int), .int .i64 0, .int .i64 0] 94) hb.size)
  have HRun := Lib.hid (run_other F hF cap _ m _ ((does_at hC HD.out hb.size HR.out HB.out).mono fun e w' ⟨h1, h2, _⟩ => (⟨h1, h2⟩ : e = Ending.panicked [{ v := .iface 2 (.int .i64 m), recovered := false }] ∧ Ran w w1.heap.size (.slice va ws.length vc) ws s.size k p c C X w')))
  clear hr hb hl HS HD HR HB
  go_wp2_with (go_at_call 48; refine HRun.out.mono ?_; rintro e w2 ⟨rfl, w3, hran, hb3⟩; have HRan := Lib.hid (hran.later HX.out hb3); clear hran hb3 HRun)
  exact ⟨rfl, rfl, HRan.out.mod, HRan.out.x⟩
end Go.Proofs.YtnnddmojcaicbaaDoor
end
