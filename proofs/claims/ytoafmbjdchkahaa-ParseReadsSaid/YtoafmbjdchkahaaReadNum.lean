/- Package word: stop, Must, Number. -/
import Derived.Test.YtoafmbjdchkahaaReadIs
import Derived.Test.YtoafmbjdchkahaaParse
import Derived.Deep.RegionHeld3
namespace Go.Proofs.Ytoafmbjdchkahaa
open Go.RowKit
variable {base R n k : Nat} {v : Value} {ws : List W} {at_ code : Int} {w w' : World}

/-- What a reader throws that can't go on. -/
abbrev haltV (R : Nat) : Value := .iface 103 (.agg #[ptrR R])
abbrev halted (R : Nat) : Ending := .panicked [{ v := haltV R, recovered := false }]

theorem Rd.stopped (h : Rd base R v ws n k at_ code w) (m : Nat) (p c : Int) : Rd base R v ws n k p c (((w.drewN m).setCell ⟨R, 3, none⟩ (.int .i64 p)).setCell ⟨R, 4, none⟩ (.int .i64 c)) := by
  have h0 : ((w.drewN m).heap[R]?) = _ := h.blk
  have h1 := set_block (o := 3) h0 (.int .i64 p)
  have h2 := set_block (o := 4) h1 (.int .i64 c)
  refine ⟨?_, ?_, h.apart, h.kle, h.len⟩
  · rw [h2]
    rfl
  · exact ownsRow_setCell_other (ownsRow_setCell_other (h.drewN m).row h.apart _) h.apart _
theorem Mod.two (w : World) (R m o p : Nat) (a b : Value) : Mod (· = R) w (((w.drewN m).setCell ⟨R, o, none⟩ a).setCell ⟨R, p, none⟩ b) :=
  (((Mod.refl (· = R) w).drewN m).setCell (p := ⟨R, o, none⟩) (.inr rfl) a).setCell (p := ⟨R, p, none⟩) (.inr rfl) b
theorem Mod.one (w : World) (R m o : Nat) (a : Value) : Mod (· = R) w ((w.drewN m).setCell ⟨R, o, none⟩ a) :=
  ((Mod.refl (· = R) w).drewN m).setCell (p := ⟨R, o, none⟩) (.inr rfl) a

theorem stop_any (h : Rd base R v ws n k at_ 0 w) (c : Int) : Calls Try.prog 47 #[ptrR R, .int .i64 c] w fun e w' =>
    e = halted R ∧ Rd base R v ws n k (placeN ws n k) c w' ∧ Mod (· = R) w w' := by
  have HP := Lib.hid (place_any h)
  have HE := Lib.hid fun m => And.intro (h.stopped m (placeN ws n k) c) (Mod.two w R m 3 4 (.int .i64 (placeN ws n k)) (.int .i64 c))
  obtain ⟨c0, c1, c2, c3, c4, hf, hR⟩ := h.cells
  have f3 := hf 3
  have f4 := hf 4
  clear h hf c0 c1 c2
  generalize (placeN ws n k : Int) = p at *
  go_enter Try.func47, Try.ntmps47
  go_wp2_with (go_at_call 45; refine HP.out.mono ?_; rintro e w' ⟨rfl, m, rfl⟩; clear HP)
  exact ⟨rfl, rfl, HE.out _⟩

theorem must_yes (h : Rd base R v ws n k at_ code w) {t : List UInt8} {a : Nat} (hk : ws[k]? = some (t, a)) : Calls Try.prog 19 #[ptrR R, .string ⟨t.toArray⟩] w fun e w' =>
    e = .returned (.tuple #[]) ∧ Rd base R v ws n (k + 1) at_ code w' ∧ Mod (· = R) w w' := by
  have HI := Lib.hid (is_yes h hk)
  have HE := Lib.hid fun m => And.intro ((h.drewN m).next (List.getElem?_eq_some_iff.1 hk).1) (Mod.one w R m 1 (.int .i64 ((k : Int) + 1)))
  clear h hk
  generalize (⟨t.toArray⟩ : ByteArray) = y at *
  go_enter Try.func19, Try.ntmps19
  go_wp2_with (go_at_call 46; refine HI.out.mono ?_; rintro e w' ⟨rfl, m, rfl⟩; clear HI)
  go_end0
  exact ⟨rfl, HE.out _⟩

theorem must_no (h : Rd base R v ws n k at_ 0 w) (x : ByteArray) (hx : ∀ t a, ws[k]? = some (t, a) → (⟨t.toArray⟩ : ByteArray) ≠ x) : Calls Try.prog 19 #[ptrR R, .string x] w fun e w' =>
    e = halted R ∧ Rd base R v ws n k (placeN ws n k) 5 w' ∧ Mod (· = R) w w' := by
  have HI : Hid (Calls Try.prog 46 #[ptrR R, .string x] w fun e w' => e = .returned (.bool false) ∧ ∃ m, w' = w.drewN m) := Lib.hid (by
    by_cases hk : k < ws.length
    · obtain ⟨⟨t, a⟩, hy⟩ : ∃ y, ws[k]? = some y := ⟨_, List.getElem?_eq_getElem hk⟩
      exact is_no h hy x (hx t a hy)
    · exact is_end h hk x)
  have HS := Lib.hid fun m => (stop_any (h.drewN m) 5).mono fun e w' ⟨h1, h2, h3⟩ => (⟨h1, h2, ((Mod.refl _ w).drewN m).trans h3⟩ : e = halted R ∧ Rd base R v ws n k (placeN ws n k) 5 w' ∧ Mod (· = R) w w')
  clear h hx
  go_enter Try.func19, Try.ntmps19
  go_wp2_with (first
    | (go_at_call 46; refine HI.out.mono ?_; rintro e w' ⟨rfl, m, rfl⟩; clear HI)
    | (go_at_call 47; refine (HS.out _).mono ?_; rintro e w' ⟨rfl, h1, h2⟩))
  exact ⟨rfl, rfl, h1, h2⟩

theorem Mod.belowR {R : Nat} {w w' : World} (h : Below w.heap.size w w') : Mod (· = R) w w' := Mod.of_below _ h
theorem number_end (h : Rd base R v ws n k at_ 0 w) (hk : ¬ k < ws.length) (lo hi : Int) : Calls Try.prog 22 #[ptrR R, .int .i64 lo, .int .i64 hi] w fun e w' =>
    e = halted R ∧ Rd base R v ws n k (placeN ws n k) 3 w' ∧ Mod (· = R) w w' := by
  have hm := more_any h
  rw [show decide (k < ws.length) = false from decide_eq_false hk] at hm
  have HM := Lib.hid hm; clear hm
  have HS := Lib.hid fun m => (stop_any (h.drewN m) 3).mono fun e w' ⟨h1, h2, h3⟩ => (⟨h1, h2, ((Mod.refl _ w).drewN m).trans h3⟩ : e = halted R ∧ Rd base R v ws n k (placeN ws n k) 3 w' ∧ Mod (· = R) w w')
  clear h hk
  go_enter Try.func22, Try.ntmps22
  go_wp2_with (first
    | (go_at_call 44; refine HM.out.mono ?_; rintro e w' ⟨rfl, m, rfl⟩; clear HM)
    | (go_at_call 47; refine (HS.out _).mono ?_; rintro e w' ⟨rfl, h1, h2⟩))
  exact ⟨rfl, rfl, h1, h2⟩

/-- What holds while a number's word is read. -/
structure NumS (base R g cap : Nat) (ws : List W) (n k : Nat) (at_ : Int) (t : List UInt8) (w W : World) : Prop where
  rd : Rd base R (.slice (some ⟨g, 0, none⟩) ws.length cap) ws n k at_ 0 W
  mod : Mod (· = R) w W
  word : W.cell? ⟨g, k * 2, none⟩ = some (.string ⟨t.toArray⟩)
variable {g cap : Nat} {t : List UInt8} {W1 W2 : World}
abbrev NumH (base R g cap : Nat) (ws : List W) (n k : Nat) (at_ : Int) (t : List UInt8) (w W : World) (y : ByteArray) : Prop :=
  W.cell? ⟨R, 0, none⟩ = some (.slice (some ⟨g, 0, none⟩) ws.length cap) ∧ W.cell? ⟨R, 1, none⟩ = some (.int .i64 (k : Int)) ∧ W.cell? ⟨g, k * 2, none⟩ = some (.string y) ∧ NumS base R g cap ws n k at_ t w W
theorem NumS.held (h : NumS base R g cap ws n k at_ t w W1) {y : ByteArray} (hy : Hid ((⟨t.toArray⟩ : ByteArray) = y)) : NumH base R g cap ws n k at_ t w W1 y :=
  ⟨h.rd.cells.1, h.rd.cells.2.1, by rw [← hy.out]; exact h.word, h⟩
theorem NumS.start (h : Rd base R v ws n k at_ 0 w) {a : Nat} (hk : ws[k]? = some (t, a)) : ∃ g cap, v = .slice (some ⟨g, 0, none⟩) ws.length cap ∧ ws.length ≤ cap ∧ cap ≤ maxLen ∧ ∀ m, NumS base R g cap ws n k at_ t w (w.drewN m) := by
  obtain ⟨g, cap, hv, hcl, hcm, e0, e1⟩ := h.word hk
  subst hv
  exact ⟨g, cap, rfl, hcl, hcm, fun m => ⟨h.drewN m, (Mod.refl _ w).drewN m, e0⟩⟩
theorem NumS.drew (h : NumS base R g cap ws n k at_ t w W1) : NumS base R g cap ws n k at_ t w W1.drew := ⟨h.rd.drew, h.mod.drew, h.word⟩
theorem NumS.drewN (h : NumS base R g cap ws n k at_ t w W1) (m : Nat) : NumS base R g cap ws n k at_ t w (W1.drewN m) := ⟨h.rd.drewN m, h.mod.drewN m, h.word⟩
theorem NumS.below (h : NumS base R g cap ws n k at_ t w W1) (hb : Below W1.heap.size W1 W2) : NumS base R g cap ws n k at_ t w W2 :=
  ⟨h.rd.below hb, h.mod.trans (Mod.of_below _ hb), (hb.cell (World.block_lt_of_cell? _ _ h.word)).trans h.word⟩
theorem NumS.later {y : ByteArray} (hy : Hid ((⟨t.toArray⟩ : ByteArray) = y)) (h : NumH base R g cap ws n k at_ t w W1 y) (hb : Below W1.heap.size W1 W2) : NumH base R g cap ws n k at_ t w W2 y := (h.2.2.2.below hb).held hy
theorem NumS.stops (h : NumS base R g cap ws n k at_ t w W1) (c : Int) : Calls Try.prog 47 #[ptrR R, .int .i64 c] W1 fun e w' =>
    e = halted R ∧ Rd base R (.slice (some ⟨g, 0, none⟩) ws.length cap) ws n k (placeN ws n k) c w' ∧ Mod (· = R) w w' :=
  (stop_any h.rd c).mono fun _ _ ⟨h1, h2, h3⟩ => ⟨h1, h2, h.mod.trans h3⟩

set_option maxHeartbeats 1000000 in
theorem number_bad (h : Rd base R v ws n k at_ 0 w) {t : List UInt8} {a : Nat} (hk : ws[k]? = some (t, a)) (ht : t.length ≤ 1000000) (hp : parseO t = none) (lo hi : Int) : Calls Try.prog 22 #[ptrR R, .int .i64 lo, .int .i64 hi] w fun e w' =>
    e = halted R ∧ Rd base R v ws n k (placeN ws n k) 3 w' ∧ Mod (· = R) w w' := by
  have hlt : k < ws.length := (List.getElem?_eq_some_iff.1 hk).1
  have hm := more_any h
  rw [show decide (k < ws.length) = true from decide_eq_true hlt] at hm
  have HM := Lib.hid hm; clear hm
  have hl := h.len
  obtain ⟨g, cap, hv, hcl, hcm, hnum⟩ := NumS.start h hk
  subst hv
  have HN := Lib.hid hnum
  have HPA : Hid (∀ W, Calls Try.prog 48 #[.string ⟨t.toArray⟩] W fun e w' => e = .returned (.tuple #[.int .i64 0, .bool false]) ∧ Below W.heap.size W w') := Lib.hid fun W => by
    have := parse_any ⟨t.toArray⟩ (by unfold maxLen; simp [ByteArray.size]; omega) W
    simpa [hp] using this
  obtain ⟨y, hy⟩ : ∃ y, (⟨t.toArray⟩ : ByteArray) = y := ⟨_, rfl⟩
  rw [hy] at HPA
  have HY := Lib.hid hy
  clear hy hp hk h ht hnum
  unfold maxLen at hcm
  go_enter Try.func22, Try.ntmps22
  go_wp2_with (go_at_call 44; refine HM.out.mono ?_; rintro e w' ⟨rfl, m, rfl⟩; clear HM)
  go_region_held3 (fun w' => NumH base R g cap ws n k at_ t w w' y) (first | assumption | exact (HN.out _).drew.held HY | exact NumS.later HY (by assumption) (by assumption))
    (first
      | (go_at_call 48; refine (HPA.out _).mono ?_; rintro e w' ⟨rfl, hb⟩))
  all_goals
    have hk2 := (by assumption : NumH base R g cap ws n k at_ t w _ y)
    have HS := Lib.hid hk2.2.2.2
    clear hk2
    go_wp2_with (go_at_call 47; refine (HS.out.stops 3).mono ?_; rintro e w' ⟨rfl, h1, h2⟩)
    exact ⟨rfl, rfl, h1, h2⟩

set_option maxHeartbeats 1000000 in
theorem number_low (h : Rd base R v ws n k at_ 0 w) {t : List UInt8} {a q : Nat} (hk : ws[k]? = some (t, a)) (ht : t.length ≤ 1000000) (hp : parseO t = some q) (lo hi : Int) (hq : (q : Int) < lo) : Calls Try.prog 22 #[ptrR R, .int .i64 lo, .int .i64 hi] w fun e w' =>
    e = halted R ∧ Rd base R v ws n k (placeN ws n k) 2 w' ∧ Mod (· = R) w w' := by
  have hlt : k < ws.length := (List.getElem?_eq_some_iff.1 hk).1
  have hm := more_any h
  rw [show decide (k < ws.length) = true from decide_eq_true hlt] at hm
  have HM := Lib.hid hm; clear hm
  have hl := h.len
  obtain ⟨g, cap, hv, hcl, hcm, hnum⟩ := NumS.start h hk
  subst hv
  have HN := Lib.hid hnum
  have HPA : Hid (∀ W, Calls Try.prog 48 #[.string ⟨t.toArray⟩] W fun e w' => e = .returned (.tuple #[.int .i64 (q : Int), .bool true]) ∧ Below W.heap.size W w') := Lib.hid fun W => by
    have := parse_any ⟨t.toArray⟩ (by unfold maxLen; simp [ByteArray.size]; omega) W
    simpa [hp] using this
  obtain ⟨y, hy⟩ : ∃ y, (⟨t.toArray⟩ : ByteArray) = y := ⟨_, rfl⟩
  rw [hy] at HPA
  have HY := Lib.hid hy
  clear hy hp hk h ht hnum
  unfold maxLen at hcm
  go_enter Try.func22, Try.ntmps22
  go_wp2_with (go_at_call 44; refine HM.out.mono ?_; rintro e w' ⟨rfl, m, rfl⟩; clear HM)
  go_region_held3 (fun w' => NumH base R g cap ws n k at_ t w w' y) (first | assumption | exact (HN.out _).drew.held HY | exact NumS.later HY (by assumption) (by assumption))
    (first
      | (go_at_call 48; refine (HPA.out _).mono ?_; rintro e w' ⟨rfl, hb⟩))
  all_goals
    have hk2 := (by assumption : NumH base R g cap ws n k at_ t w _ y)
    have HS := Lib.hid hk2.2.2.2
    clear hk2
    go_wp2_with (go_at_call 47; refine (HS.out.stops 2).mono ?_; rintro e w' ⟨rfl, h1, h2⟩)
    exact ⟨rfl, rfl, h1, h2⟩

set_option maxHeartbeats 1000000 in
theorem number_high (h : Rd base R v ws n k at_ 0 w) {t : List UInt8} {a q : Nat} (hk : ws[k]? = some (t, a)) (ht : t.length ≤ 1000000) (hp : parseO t = some q) (lo hi : Int) (hq : ¬ (q : Int) < lo) (hq2 : hi < (q : Int)) : Calls Try.prog 22 #[ptrR R, .int .i64 lo, .int .i64 hi] w fun e w' =>
    e = halted R ∧ Rd base R v ws n k (placeN ws n k) 2 w' ∧ Mod (· = R) w w' := by
  have hlt : k < ws.length := (List.getElem?_eq_some_iff.1 hk).1
  have hm := more_any h
  rw [show decide (k < ws.length) = true from decide_eq_true hlt] at hm
  have HM := Lib.hid hm; clear hm
  have hl := h.len
  obtain ⟨g, cap, hv, hcl, hcm, hnum⟩ := NumS.start h hk
  subst hv
  have HN := Lib.hid hnum
  have HPA : Hid (∀ W, Calls Try.prog 48 #[.string ⟨t.toArray⟩] W fun e w' => e = .returned (.tuple #[.int .i64 (q : Int), .bool true]) ∧ Below W.heap.size W w') := Lib.hid fun W => by
    have := parse_any ⟨t.toArray⟩ (by unfold maxLen; simp [ByteArray.size]; omega) W
    simpa [hp] using this
  obtain ⟨y, hy⟩ : ∃ y, (⟨t.toArray⟩ : ByteArray) = y := ⟨_, rfl⟩
  rw [hy] at HPA
  have HY := Lib.hid hy
  clear hy hp hk h ht hnum
  unfold maxLen at hcm
  go_enter Try.func22, Try.ntmps22
  go_wp2_with (go_at_call 44; refine HM.out.mono ?_; rintro e w' ⟨rfl, m, rfl⟩; clear HM)
  go_region_held3 (fun w' => NumH base R g cap ws n k at_ t w w' y) (first | assumption | exact (HN.out _).drew.held HY | exact NumS.later HY (by assumption) (by assumption))
    (first
      | (go_at_call 48; refine (HPA.out _).mono ?_; rintro e w' ⟨rfl, hb⟩))
  all_goals
    have hk2 := (by assumption : NumH base R g cap ws n k at_ t w _ y)
    have HS := Lib.hid hk2.2.2.2
    clear hk2
    go_wp2_with (go_at_call 47; refine (HS.out.stops 2).mono ?_; rintro e w' ⟨rfl, h1, h2⟩)
    exact ⟨rfl, rfl, h1, h2⟩

set_option maxHeartbeats 1000000 in
theorem number_yes (h : Rd base R v ws n k at_ 0 w) {t : List UInt8} {a q : Nat} (hk : ws[k]? = some (t, a)) (ht : t.length ≤ 1000000) (hp : parseO t = some q) (lo hi : Int) (hq : ¬ (q : Int) < lo) (hq2 : ¬ hi < (q : Int)) : Calls Try.prog 22 #[ptrR R, .int .i64 lo, .int .i64 hi] w fun e w' =>
    e = .returned (.int .i64 (q : Int)) ∧ Rd base R v ws n (k + 1) at_ 0 w' ∧ Mod (· = R) w w' := by
  have hlt : k < ws.length := (List.getElem?_eq_some_iff.1 hk).1
  have hm := more_any h
  rw [show decide (k < ws.length) = true from decide_eq_true hlt] at hm
  have HM := Lib.hid hm; clear hm
  have hl := h.len
  obtain ⟨g, cap, hv, hcl, hcm, hnum⟩ := NumS.start h hk
  subst hv
  have HN := Lib.hid hnum
  have HPA : Hid (∀ W, Calls Try.prog 48 #[.string ⟨t.toArray⟩] W fun e w' => e = .returned (.tuple #[.int .i64 (q : Int), .bool true]) ∧ Below W.heap.size W w') := Lib.hid fun W => by
    have := parse_any ⟨t.toArray⟩ (by unfold maxLen; simp [ByteArray.size]; omega) W
    simpa [hp] using this
  obtain ⟨y, hy⟩ : ∃ y, (⟨t.toArray⟩ : ByteArray) = y := ⟨_, rfl⟩
  rw [hy] at HPA
  have HY := Lib.hid hy
  clear hy hp hk h ht hnum
  unfold maxLen at hcm
  go_enter Try.func22, Try.ntmps22
  go_wp2_with (go_at_call 44; refine HM.out.mono ?_; rintro e w' ⟨rfl, m, rfl⟩; clear HM)
  go_region_held3 (fun w' => NumH base R g cap ws n k at_ t w w' y) (first | assumption | exact (HN.out _).drew.held HY | exact NumS.later HY (by assumption) (by assumption))
    (first
      | (go_at_call 48; refine (HPA.out _).mono ?_; rintro e w' ⟨rfl, hb⟩))
  all_goals
    have hk2 := (by assumption : NumH base R g cap ws n k at_ t w _ y)
    have HS := Lib.hid hk2.2.2.2
    have f1 := hk2.2.2.2.rd.cells.2.2.2.2.2.1 1
    have HE := Lib.hid (And.intro (hk2.2.2.2.rd.next hlt) (hk2.2.2.2.mod.setCell (p := ⟨R, 1, none⟩) (.inr rfl) (.int .i64 ((k : Int) + 1))))
    obtain ⟨c0, c1, c2, _⟩ := hk2
    go_wp2
    go_ret
    exact ⟨rfl, HE.out⟩
end Go.Proofs.Ytoafmbjdchkahaa
