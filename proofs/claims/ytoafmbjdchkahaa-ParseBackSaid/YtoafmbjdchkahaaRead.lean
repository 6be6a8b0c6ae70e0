/- Package word: Read. -/
import Derived.Test.YtoafmbjdchkahaaRun
namespace Go.Proofs.Ytoafmbjdchkahaa
open Go.RowKit
variable {base R n k : Nat} {v : Value} {ws : List W} {at_ code : Int} {w w' : World}

theorem nilF_neq (w : World) : (binOp .neq 69 .nilFunc .nilFunc).run Try.prog w = .ok (.bool false) w := by kernel_rfl
theorem func_neq (fn : Fn) (first cap : Array Value) (w : World) : (binOp .neq 69 (.func fn first cap) .nilFunc).run Try.prog w = .ok (.bool true) w := by kernel_rfl

/-- A text that can't be read: whatever is to be done. -/
theorem read_big (s : ByteArray) (f : Value) (w : World) (hs : 131072 < s.size) (hm : s.size ≤ 9223372036854775807) :
    Calls Try.prog 17 #[.string s, f] w fun e w' => e = .returned (.tuple #[.int .i64 0, .int .i64 4]) ∧ w = w' := by
  have HS := Lib.hid (split_big s w hs hm)
  go_enter Try.func17, Try.ntmps17
  go_wp2_with (go_at_call 42; refine HS.out.mono ?_; rintro e w' ⟨rfl, rfl⟩; clear HS)
  go_ret2
  exact ⟨rfl, rfl⟩
theorem read_bad (s : ByteArray) (f : Value) (w : World) (hs : s.size ≤ 131072) (hb : toN badB s.data.toList < s.size) :
    Calls Try.prog 17 #[.string s, f] w fun e w' => e = .returned (.tuple #[.int .i64 (toN badB s.data.toList : Nat), .int .i64 3]) ∧ w = w' := by
  have HS := Lib.hid (split_bad s w hs hb)
  generalize toN badB s.data.toList = q at *
  go_enter Try.func17, Try.ntmps17
  go_wp2_with (go_at_call 42; refine HS.out.mono ?_; rintro e w' ⟨rfl, rfl⟩; clear HS)
  go_ret2
  exact ⟨rfl, rfl⟩

/-- A reader that has just been made. -/
theorem Rd.made (T : TypeId) (hT : T = 94) {w w1 : World} {v : Value} {ws : List W} (n : Nat) (hr : WRow 99 w1 w.heap.size v ws) (_hb : Below w.heap.size w w1) (hl : ws.length ≤ 1000000) :
    Rd w.heap.size w1.heap.size v ws n 0 0 0 (w1.alloc (.cells #[v, .int .i64 0, .int .i64 (n : Int), .int .i64 0, .int .i64 0] T)) := by
  subst hT
  refine ⟨heap_alloc_new _ _, hr.below ((Below.refl _ _).alloc (Nat.le_refl _) _), fun e => ?_, Nat.zero_le _, hl⟩
  have := (World.ownsRow.lt hr _ e).2
  omega

theorem words_few (s : ByteArray) (hs : s.size ≤ 131072) : (cutL s.data.toList 0).length ≤ 1000000 := by
  have := cutL_length s.data.toList.length s.data.toList 0 (Nat.le_refl _)
  have h2 : s.data.toList.length = s.size := by simp
  omega

/-- What Read answers where the reader has come to word k with no error. -/
def endAt (ws : List W) (n k : Nat) : Nat := if k < ws.length then placeN ws n k else 0
def endCode (ws : List W) (k : Nat) : Int := if k < ws.length then 6 else 0

theorem ret_two {p p' : Nat} {c c' : Int} (h : p = p') (g : c = c') : Ending.returned (.tuple #[.int .i64 (p : Int), .int .i64 c]) = .returned (.tuple #[.int .i64 (p' : Int), .int .i64 c']) := by rw [h, g]
theorem read_none (s : ByteArray) (w : World) (hs : s.size ≤ 131072) (hb : toN badB s.data.toList = s.size) :
    Calls Try.prog 17 #[.string s, .nilFunc] w fun e w' => e = .returned (.tuple #[.int .i64 (endAt (cutL s.data.toList 0) s.size 0 : Nat), .int .i64 (endCode (cutL s.data.toList 0) 0)]) ∧ Below w.heap.size w w' := by
  have HS := Lib.hid (split_good s w hs hb)
  have hl := words_few s hs
  have q := nilF_neq
  generalize cutL s.data.toList 0 = ws at *
  have HE : Hid ((endAt ws s.size 0 = if 0 < ws.length then placeN ws s.size 0 else 0) ∧ (endCode ws 0 = if 0 < ws.length then 6 else 0)) := Lib.hid ⟨rfl, rfl⟩
  generalize endAt ws s.size 0 = p at *
  generalize endCode ws 0 = c at *
  clear hb
  go_enter Try.func17, Try.ntmps17
  go_wp2_with fail
  refine HS.out.mono ?_
  rintro e w1 ⟨v, rfl, hr, hb⟩
  obtain ⟨va, vc, hv⟩ := hr.shape
  subst hv
  have HR := Lib.hid (Rd.made 94 rfl s.size hr hb hl)
  have HB := Lib.hid (hb.alloc (o := .cells #[.slice va ws.length vc, .int .i64 0, .int .i64 (s.size : Int), .int .i64 0, .int .i64 0] 94) hb.size)
  have HMo : Hid (Calls Try.prog 44 #[ptrR w1.heap.size] (w1.alloc (.cells #[.slice va ws.length vc, .int .i64 0, .int .i64 (s.size : Int), .int .i64 0, .int .i64 0] 94)) fun e w' => e = .returned (.bool (decide (0 < ws.length))) ∧ ∃ m, w' = (w1.alloc (.cells #[.slice va ws.length vc, .int .i64 0, .int .i64 (s.size : Int), .int .i64 0, .int .i64 0] 94)).drewN m) := Lib.hid (more_any HR.out)
  clear hr hb hl HS
  by_cases h0 : 0 < ws.length
  · rw [show decide (0 < ws.length) = true from decide_eq_true h0] at HMo
    rw [if_pos h0, if_pos h0] at HE
    clear h0
    go_wp2_with (first
      | (go_at_call 44; refine HMo.out.mono ?_; rintro e w' ⟨rfl, m, rfl⟩; clear HMo)
      | (go_at_call 45; refine (place_any (HR.out.drewN _)).mono ?_; rintro e w' ⟨rfl, m2, rfl⟩))
    go_ret2
    exact ⟨ret_two HE.out.1.symm HE.out.2.symm, below_drewN HB.out _⟩
  · rw [show decide (0 < ws.length) = false from decide_eq_false h0] at HMo
    rw [if_neg h0, if_neg h0] at HE
    clear h0
    go_wp2_with (first
      | (go_at_call 44; refine HMo.out.mono ?_; rintro e w' ⟨rfl, m, rfl⟩; clear HMo))
    go_ret2
    exact ⟨ret_two (p := 0) HE.out.1.symm HE.out.2.symm, below_drewN HB.out _⟩

/-- What is known of a call of what is to be done with a reader: how it ends, where the reader stands then, what becomes of the caller's own memory. -/
def Does (F : Nat) (cap : Array Value) (w : World) (ws : List W) (n : Nat) (E : Nat → Ending) (k : Nat) (at_ code : Int) (C : Nat → Prop) (X : World → Prop) : Prop :=
  ∀ R v W, w.heap.size ≤ R → Rd w.heap.size R v ws n 0 0 0 W → Below w.heap.size w W →
    Calls Try.prog F (#[ptrR R] ++ cap) W fun e w' => e = E R ∧ Rd w.heap.size R v ws n k at_ code w' ∧ Mod (fun b => b = R ∨ C b) W w' ∧ X w'
/-- A fact on memory that new blocks don't touch. -/
def Stable (X : World → Prop) : Prop := ∀ a b, X a → Below a.heap.size a b → X b

/-- What Read knows behind run. -/
structure Ran (w : World) (R : Nat) (v : Value) (ws : List W) (n k : Nat) (at_ code : Int) (C : Nat → Prop) (X : World → Prop) (w' : World) : Prop where
  rd : Rd w.heap.size R v ws n k at_ code w'
  mod : Mod C w w'
  x : X w'
theorem Ran.later {R : Nat} {C : Nat → Prop} {X : World → Prop} {w1 : World} (hX : Stable X) (h : Ran w R v ws n k at_ code C X w1) (hb : Below w1.heap.size w1 w') : Ran w R v ws n k at_ code C X w' :=
  ⟨h.rd.below hb, h.mod.trans (Mod.of_below _ hb), hX _ _ h.x hb⟩
theorem Ran.drewN {R : Nat} {C : Nat → Prop} {X : World → Prop} (hX : Stable X) (h : Ran w R v ws n k at_ code C X w') (m : Nat) : Ran w R v ws n k at_ code C X (w'.drewN m) := h.later hX (below_drewN (Below.refl _ _) m)

/-- Behind Split and the making of the reader: what run is given. -/
theorem does_at {F : Nat} {cap : Array Value} {w Wd : World} {ws : List W} {n R : Nat} {v : Value} {E : Nat → Ending} {k : Nat} {at_ code : Int} {C : Nat → Prop} {X : World → Prop} (hC : ∀ b, C b → b < w.heap.size) (hd : Does F cap w ws n E k at_ code C X)
    (hR : w.heap.size ≤ R) (hr : Rd w.heap.size R v ws n 0 0 0 Wd) (hb : Below w.heap.size w Wd) :
    Calls Try.prog F (#[ptrR R] ++ cap) (Wd.alloc (.cells #[ptrR R] 55)) fun e w' => e = E R ∧ Ran w R v ws n k at_ code C X w' ∧ w'.cell? ⟨Wd.heap.size, 0, none⟩ = some (ptrR R) := by
  have hb' : Below Wd.heap.size Wd (Wd.alloc (.cells #[ptrR R] 55)) := (Below.refl _ _).alloc (Nat.le_refl _) _
  refine (hd R v _ hR (hr.below hb') (hb.trans (hb'.mono hb.size))).mono fun e w' ⟨h1, h2, h3, h4⟩ => ⟨h1, ⟨h2, ?_, h4⟩, ?_⟩
  · refine (Mod.of_below _ (hb.trans (hb'.mono hb.size))).then_ h3 (fun i hi hs => hs.elim (fun e => absurd hR (by omega)) id)
  · have hlt := hr.lt
    have hsz := hb.size
    rw [h3.cell (by simp) (fun hs => hs.elim (fun e => by simp at e; omega) (fun e => by have := hC _ e; simp at this; omega))]
    simp

theorem read_ret (s : ByteArray) (w : World) (hs : s.size ≤ 131072) (hb : toN badB s.data.toList = s.size) (F : Nat) (hF : Body F) (cap : Array Value) (k : Nat) (at_ : Int) (C : Nat → Prop) (hC : ∀ b, C b → b < w.heap.size) (X : World → Prop) (hX : Stable X)
    (hd : Does F cap w (cutL s.data.toList 0) s.size (fun _ => .returned (.tuple #[])) k at_ 0 C X) :
    Calls Try.prog 17 #[.string s, .func (.func F) #[] cap] w fun e w' => e = .returned (.tuple #[.int .i64 (endAt (cutL s.data.toList 0) s.size k : Nat), .int .i64 (endCode (cutL s.data.toList 0) k)]) ∧ Mod C w w' ∧ X w' := by
  have HS := Lib.hid (split_good s w hs hb)
  have hl := words_few s hs
  have q := func_neq
  generalize cutL s.data.toList 0 = ws at *
  have HE : Hid ((endAt ws s.size k = if k < ws.length then placeN ws s.size k else 0) ∧ (endCode ws k = if k < ws.length then 6 else 0)) := Lib.hid ⟨rfl, rfl⟩
  generalize endAt ws s.size k = p at *
  generalize endCode ws k = c at *
  have HD := Lib.hid hd
  have HX := Lib.hid hX
  clear hb hd hX
  go_enter Try.func17, Try.ntmps17
  go_wp2_with fail
  refine HS.out.mono ?_
  rintro e w1 ⟨v, rfl, hr, hb⟩
  obtain ⟨va, vc, hv⟩ := hr.shape
  subst hv
  have HR := Lib.hid (Rd.made 94 rfl s.size hr hb hl)
  have HB := Lib.hid (hb.alloc (o := .cells #[.slice va ws.length vc, .int .i64 0, .int .i64 (s.size : Int), .int .i64 0, .int .i64 0] 94) hb.size)
  have HRun := Lib.hid (run_ret F hF cap _ _ ((does_at hC HD.out hb.size HR.out HB.out).mono fun e w' ⟨h1, h2, _⟩ => (⟨h1, h2⟩ : e = Ending.returned (.tuple #[]) ∧ Ran w w1.heap.size (.slice va ws.length vc) ws s.size k at_ 0 C X w')))
  clear hr hb hl HS HD HR HB
  go_wp2_with (go_at_call 43; refine HRun.out.mono ?_; rintro e w2 ⟨rfl, hran⟩; have HRan := Lib.hid hran; obtain ⟨c0, c1, c2, c3, c4, _, _⟩ := hran.rd.cells; clear hran HRun)
  have HMo := Lib.hid (more_any HRan.out.rd)
  clear c0 c1 c2 c3
  by_cases h0 : k < ws.length
  · rw [show decide (k < ws.length) = true from decide_eq_true h0] at HMo
    rw [if_pos h0, if_pos h0] at HE
    clear h0
    go_wp2_with (first
      | (go_at_call 44; refine HMo.out.mono ?_; rintro e w' ⟨rfl, m, rfl⟩; clear HMo)
      | (go_at_call 45; refine (place_any (HRan.out.rd.drewN _)).mono ?_; rintro e w' ⟨rfl, m2, rfl⟩))
    go_ret2
    have h := HRan.out.drewN HX.out (m + m2)
    exact ⟨ret_two HE.out.1.symm HE.out.2.symm, h.mod, h.x⟩
  · rw [show decide (k < ws.length) = false from decide_eq_false h0] at HMo
    rw [if_neg h0, if_neg h0] at HE
    clear h0
    go_wp2_with (go_at_call 44; refine HMo.out.mono ?_; rintro e w' ⟨rfl, m, rfl⟩; clear HMo)
    go_ret2
    have h := HRan.out.drewN HX.out m
    exact ⟨ret_two (p := 0) HE.out.1.symm HE.out.2.symm, h.mod, h.x⟩

theorem read_halt (s : ByteArray) (w : World) (hs : s.size ≤ 131072) (hb : toN badB s.data.toList = s.size) (F : Nat) (hF : Body F) (cap : Array Value) (k : Nat) (p c : Int) (hc : (c != 0) = true) (C : Nat → Prop) (hC : ∀ b, C b → b < w.heap.size) (X : World → Prop) (hX : Stable X)
    (hd : Does F cap w (cutL s.data.toList 0) s.size halted k p c C X) :
    Calls Try.prog 17 #[.string s, .func (.func F) #[] cap] w fun e w' => e = .returned (.tuple #[.int .i64 p, .int .i64 c]) ∧ Mod C w w' ∧ X w' := by
  have HS := Lib.hid (split_good s w hs hb)
  have hl := words_few s hs
  have q := func_neq
  generalize cutL s.data.toList 0 = ws at *
  have HD := Lib.hid hd
  have HX := Lib.hid hX
  clear hb hd hX
  go_enter Try.func17, Try.ntmps17
  go_wp2_with fail
  refine HS.out.mono ?_
  rintro e w1 ⟨v, rfl, hr, hb⟩
  obtain ⟨va, vc, hv⟩ := hr.shape
  subst hv
  have HR := Lib.hid (Rd.made 94 rfl s.size hr hb hl)
  have HB := Lib.hid (hb.alloc (o := .cells #[.slice va ws.length vc, .int .i64 0, .int .i64 (s.size : Int), .int .i64 0, .int .i64 0] 94) hb.size)
  have HRun := Lib.hid (run_halt F hF cap _ _ (does_at hC HD.out hb.size HR.out HB.out))
  clear hr hb hl HS HD HR HB
  go_wp2_with (go_at_call 43; refine HRun.out.mono ?_; rintro e w2 ⟨rfl, w3, hran, hb3⟩; have HRan := Lib.hid (hran.later HX.out hb3); obtain ⟨c0, c1, c2, c3, c4, _, _⟩ := HRan.out.rd.cells; clear hran hb3 HRun c0 c1 c2)
  go_quiet (fail)
  go_wp2
  go_ret2
  have h := HRan.out.drewN HX.out nq
  exact ⟨rfl, h.mod, h.x⟩

/-- What else is thrown is thrown on. -/
theorem read_other (s : ByteArray) (w : World) (hs : s.size ≤ 131072) (hb : toN badB s.data.toList = s.size) (F : Nat) (hF : Body F) (cap : Array Value) (k : Nat) (p c : Int) (m : Int) (C : Nat → Prop) (hC : ∀ b, C b → b < w.heap.size) (X : World → Prop) (hX : Stable X)
    (hd : Does F cap w (cutL s.data.toList 0) s.size (fun _ => .panicked [{ v := .iface 2 (.int .i64 m), recovered := false }]) k p c C X) :
    Calls Try.prog 17 #[.string s, .func (.func F) #[] cap] w fun e w' =>
      e = .panicked [{ v := .iface 2 (.int .i64 m), recovered := false }, { v := .iface 2 (.int .i64 m), recovered := true }] ∧ Mod C w w' ∧ X w' := by
  have HS := Lib.hid (split_good s w hs hb)
  have hl := words_few s hs
  have q := func_neq
  generalize cutL s.data.toList 0 = ws at *
  have HD := Lib.hid hd
  have HX := Lib.hid hX
  clear hb hd hX
  go_enter Try.func17, Try.ntmps17
  go_wp2_with fail
  refine HS.out.mono ?_
  rintro e w1 ⟨v, rfl, hr, hb⟩
  obtain ⟨va, vc, hv⟩ := hr.shape
  subst hv
  have HR := Lib.hid (Rd.made 94 rfl s.size hr hb hl)
  have HB := Lib.hid (hb.alloc (o := .cells #[.slice va ws.length vc, .int .i64 0, .int .i64 (s.size : Int), .int .i64 0, .int .i64 0] 94) hb.size)
  have HRun := Lib.hid (run_other F hF cap _ m _ ((does_at hC HD.out hb.size HR.out HB.out).mono fun e w' ⟨h1, h2, _⟩ => (⟨h1, h2⟩ : e = Ending.panicked [{ v := .iface 2 (.int .i64 m), recovered := false }] ∧ Ran w w1.heap.size (.slice va ws.length vc) ws s.size k p c C X w')))
  clear hr hb hl HS HD HR HB
  go_wp2_with (go_at_call 43; refine HRun.out.mono ?_; rintro e w2 ⟨rfl, w3, hran, hb3⟩; have HRan := Lib.hid (hran.later HX.out hb3); clear hran hb3 HRun)
  exact ⟨rfl, rfl, HRan.out.mod, HRan.out.x⟩
end Go.Proofs.Ytoafmbjdchkahaa
