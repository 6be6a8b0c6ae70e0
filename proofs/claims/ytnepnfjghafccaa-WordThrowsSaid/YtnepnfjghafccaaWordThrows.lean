/- The walk of the law on what else is thrown. -/
import Derived.Test.YtnepnfjghafccaaWAwake
import Derived.Test.YtnepnfjghafccaaRWords
namespace Go.Proofs.Ytnepnfjghafccaa
open Go.RowKit

/-- What the law's own do throws. -/
abbrev intV (m : Int) : Value := .iface 2 (.int .i64 m)
theorem body_throws : Body 24 := fun _ _ => by kernel_rfl
theorem throws_does (b : Nat) (m : Int) (w : World) (ws : List W) (n : Nat) (hc : w.cell? ⟨b, 0, none⟩ = some (.int .i64 m)) :
    Does 24 #[.pointer (some ⟨b, 0, none⟩)] w ws n (fun _ => .panicked [{ v := intV m, recovered := false }]) 0 0 0 (fun _ => False) (fun _ => True) := by
  intro R v Wd hR hr hb
  have hc2 := (hb.cell (World.block_lt_of_cell? _ _ hc)).trans hc
  have HR := Lib.hid hr
  clear hr hb hc
  go_enter Try.func24, Try.ntmps24
  go_wp2
  exact ⟨rfl, rfl, HR.out, Mod.refl _ _, trivial⟩

theorem int_is (m : Int) (w : World) : (Instr.typeAssert (intV m) 20 2 true).run Try.prog w = .ok (.tuple #[.int .i64 m, .bool true]) w := by kernel_rfl

/-- The deferred call that looks at what was thrown. -/
theorem thrown_catch (a b : Nat) (m x : Int) (y : Bool) (older : List PanicEntry) (w : World) (ha : w.cell? ⟨a, 0, none⟩ = some (.int .i64 x)) (hb : w.cell? ⟨b, 0, none⟩ = some (.bool y)) (hab : a ≠ b) (fa : w.frozen? ⟨a, 0, none⟩ = false) (fb : w.frozen? ⟨b, 0, none⟩ = false) :
    CallsD Try.prog 33 #[.pointer (some ⟨a, 0, none⟩), .pointer (some ⟨b, 0, none⟩)] (.panicking ({ v := intV m, recovered := false } :: older)) w fun e u' w' =>
      e = .returned (.tuple #[]) ∧ u' = .panicking ({ v := intV m, recovered := true } :: older) ∧ w' = (w.setCell ⟨a, 0, none⟩ (.int .i64 m)).setCell ⟨b, 0, none⟩ (.bool true) := by
  have q := int_is m
  have hb2 : (w.setCell ⟨a, 0, none⟩ (.int .i64 m)).cell? ⟨b, 0, none⟩ = some (.bool y) := (World.cell?_setCell_other w ⟨a, 0, none⟩ ⟨b, 0, none⟩ _ (fun e => hab (by injection e))).trans hb
  have fb2 : (w.setCell ⟨a, 0, none⟩ (.int .i64 m)).frozen? ⟨b, 0, none⟩ = false := by simp [fb]
  refine callsD_of_wpS Try.func33 rfl fun c₀ cs hu => ?_
  apply wpS_region
  simp [wpOpsS, go_sem, recoverD, hu, Try.ntmps33, q, ha, fa, hb2, fb2, bodyPostS, results, Try.results33]

/-- What a call throws is handed back. -/
theorem thrown_yes (F : Nat) (hF : Body F) (cap : Array Value) (m : Int) (older : List PanicEntry) (ho : older.dropWhile (!·.goexit) = []) (w : World)
    (hdo : Calls Try.prog F cap ((w.alloc (.cells #[.int .i64 0] 2)).alloc (.cells #[.bool false] 4)) fun e w' => e = .panicked ({ v := intV m, recovered := false } :: older) ∧ Below ((w.alloc (.cells #[.int .i64 0] 2)).alloc (.cells #[.bool false] 4)).heap.size ((w.alloc (.cells #[.int .i64 0] 2)).alloc (.cells #[.bool false] 4)) w') :
    Calls Try.prog 22 #[.func (.func F) #[] cap] w fun e w' => e = .returned (.tuple #[.int .i64 m, .bool true]) ∧ Below w.heap.size w w' := by
  have hmf : ∀ (fn : Fn) (first cap : Array Value) (w : World), (Instr.makeFunc fn first cap).run Try.prog w = .ok (.func fn first cap) w := fun _ _ _ _ => rfl
  have HD := Lib.hid hdo
  clear hdo
  unfold Body at hF
  go_enter_defers Try.func22, Try.ntmps22
  go_wp2_with fail
  refine HD.out.mono ?_
  rintro e w' ⟨rfl, hb⟩
  have c1 : w'.cell? ⟨w.heap.size, 0, none⟩ = some (.int .i64 0) := (hb.cell (by simp; omega)).trans (by simp)
  have c2 : w'.cell? ⟨w.heap.size + 1, 0, none⟩ = some (.bool false) := (hb.cell (by simp)).trans (by simp)
  have f1 : w'.frozen? ⟨w.heap.size, 0, none⟩ = false := (hb.frozen (by simp; omega)).trans (by simp [go_sem])
  have f2 : w'.frozen? ⟨w.heap.size + 1, 0, none⟩ = false := (hb.frozen (by simp)).trans (by simp [go_sem])
  have HB : Hid (Below w.heap.size w ((w'.setCell ⟨w.heap.size, 0, none⟩ (.int .i64 m)).setCell ⟨w.heap.size + 1, 0, none⟩ (.bool true))) := Lib.hid (((((Below.refl w.heap.size w).alloc (Nat.le_refl _) _).alloc (by simp) _).trans (hb.mono (by simp; omega))).setCell (by simp) _ |>.setCell (by simp) _)
  have HC := Lib.hid (thrown_catch w.heap.size (w.heap.size + 1) m 0 false older w' c1 c2 (by omega) f1 f2)
  have HR : Hid (((w'.setCell ⟨w.heap.size, 0, none⟩ (.int .i64 m)).setCell ⟨w.heap.size + 1, 0, none⟩ (.bool true)).cell? ⟨w.heap.size, 0, none⟩ = some (.int .i64 m) ∧ ((w'.setCell ⟨w.heap.size, 0, none⟩ (.int .i64 m)).setCell ⟨w.heap.size + 1, 0, none⟩ (.bool true)).cell? ⟨w.heap.size + 1, 0, none⟩ = some (.bool true)) := Lib.hid (by
    obtain ⟨v1, h1⟩ := cell?_setCell_some (w := w') (p := ⟨w.heap.size, 0, none⟩) (x := .int .i64 m) (q := ⟨w.heap.size + 1, 0, none⟩) c2
    refine ⟨?_, World.cell?_setCell_same _ _ _ h1⟩
    rw [World.cell?_setCell_other _ ⟨w.heap.size + 1, 0, none⟩ ⟨w.heap.size, 0, none⟩ _ (fun e => by injection e; omega)]
    exact World.cell?_setCell_same _ _ _ c1)
  clear hb c1 c2 f1 f2 HD hF hmf
  go_wp2_with fail
  refine leaves_cons (f := 33) (args := #[.pointer (some ⟨w.heap.size, 0, none⟩), .pointer (some ⟨w.heap.size + 1, 0, none⟩)]) (by simp) (by simp [go_sem]) ?_
  refine HC.out.mono ?_
  rintro e u' w'' ⟨rfl, rfl, rfl⟩
  obtain ⟨r1, r2⟩ := HR.out
  simp [Leaves, settle, ho, results, Try.results22, go_sem, r1, r2]
  exact HB.out

theorem body_reads : Body 23 := fun _ _ => by kernel_rfl
/-- The law's call of Read. -/
theorem reads_throws (s : ByteArray) (hs : s.size ≤ 131072) (hg : toN badB s.data.toList = s.size) (a b : Nat) (m : Int) (w : World) (ha : w.cell? ⟨a, 0, none⟩ = some (.string s)) (hb : w.cell? ⟨b, 0, none⟩ = some (.int .i64 m)) :
    Calls Try.prog 23 #[.pointer (some ⟨a, 0, none⟩), .pointer (some ⟨b, 0, none⟩)] w fun e w' => e = .panicked [{ v := intV m, recovered := false }, { v := intV m, recovered := true }] ∧ Below w.heap.size w w' := by
  have hmf : ∀ (fn : Fn) (first cap : Array Value) (w : World), (Instr.makeFunc fn first cap).run Try.prog w = .ok (.func fn first cap) w := fun _ _ _ _ => rfl
  have HR := Lib.hid (read_other s w hs hg 24 body_throws #[.pointer (some ⟨b, 0, none⟩)] 0 0 0 m (fun _ => False) (fun _ h => h.elim) (fun _ => True) (fun _ _ _ _ => trivial) (throws_does b m w _ _ hb))
  clear hs hg hb
  go_enter Try.func23, Try.ntmps23
  go_wp2_with (go_at_call 13; refine HR.out.mono ?_; rintro e w2 ⟨rfl, hm, _⟩; have HM := Lib.hid hm; clear hm)
  exact ⟨rfl, rfl, HM.out.below (Nat.le_refl _) (fun _ h => h.elim)⟩

set_option maxHeartbeats 1000000 in
theorem wordThrows_walk (s : ByteArray) (m : Int) (hs : s.size ≤ maxLen) (_hm : (Lit.int .i64 m).wf = true) (w : World) : Calls Try.prog 6 #[.string s, .int .i64 m] w fun e w' => e = .returned (.bool true) ∧ Below w.heap.size w w' := by
  unfold maxLen at hs
  have hmf : ∀ (fn : Fn) (first cap : Array Value) (w : World), (Instr.makeFunc fn first cap).run Try.prog w = .ok (.func fn first cap) w := fun _ _ _ _ => rfl
  clear _hm
  have HB0 : Hid (Below w.heap.size w ((w.alloc (.cells #[.string s] 9)).alloc (.cells #[.int .i64 m] 2))) := Lib.hid (((Below.refl _ _).alloc (Nat.le_refl _) _).alloc (by simp) _)
  by_cases hbig : 200 < s.size
  · have h1 : (200 : Int) < (s.size : Int) := by omega
    go_enter Try.func6, Try.ntmps6
    go_wp2_with (go_at_call 9; refine (word_awake _).mono ?_; rintro e w1 ⟨rfl, hb1⟩; have HB1 := Lib.hid (HB0.out.trans (hb1.mono (by simp; omega))); have c1 : w1.cell? ⟨w.heap.size, 0, none⟩ = some (.string s) := (hb1.cell (by simp; omega)).trans (by simp); clear hb1)
    go_ret
    exact ⟨rfl, HB1.out⟩
  · have h1 : ¬ (200 : Int) < (s.size : Int) := by omega
    have hle : toN badB s.data.toList ≤ s.size := by have := toN_le badB s.data.toList; simpa using this
    by_cases hb : toN badB s.data.toList < s.size
    · have HW := Lib.hid fun W => words_bad s W (by omega) hb
      generalize toN badB s.data.toList = q at *
      go_enter Try.func6, Try.ntmps6
      go_wp2_with (first
        | (go_at_call 9; refine (word_awake _).mono ?_; rintro e w1 ⟨rfl, hb1⟩; have HB1 := Lib.hid (HB0.out.trans (hb1.mono (by simp; omega))); have c1 : w1.cell? ⟨w.heap.size, 0, none⟩ = some (.string s) := (hb1.cell (by simp; omega)).trans (by simp); clear hb1)
        | (go_at_call 11; refine (HW.out _).mono ?_; rintro e w3 ⟨rfl, rfl⟩))
      go_ret
      exact ⟨rfl, HB1.out⟩
    · have hb' : toN badB s.data.toList = s.size := by omega
      have HW := Lib.hid fun W => words_good s W (by omega) hb'
      have HT : Hid (∀ W, W.cell? ⟨w.heap.size, 0, none⟩ = some (.string s) → W.cell? ⟨w.heap.size + 1, 0, none⟩ = some (.int .i64 m) →
          Calls Try.prog 22 #[.func (.func 23) #[] #[.pointer (some ⟨w.heap.size, 0, none⟩), .pointer (some ⟨w.heap.size + 1, 0, none⟩)]] W fun e w' => e = .returned (.tuple #[.int .i64 m, .bool true]) ∧ Below W.heap.size W w') := Lib.hid fun Wd h2 h3 =>
        thrown_yes _ body_reads _ m _ (by rfl) Wd (reads_throws s (by omega) hb' w.heap.size (w.heap.size + 1) m _
          ((World.cell?_alloc_past _ _ _ (by have := World.block_lt_of_cell? _ _ h2; simp at this ⊢; omega)).trans ((World.cell?_alloc_past _ _ _ (World.block_lt_of_cell? _ _ h2)).trans h2))
          ((World.cell?_alloc_past _ _ _ (by have := World.block_lt_of_cell? _ _ h3; simp at this ⊢; omega)).trans ((World.cell?_alloc_past _ _ _ (World.block_lt_of_cell? _ _ h3)).trans h3)))
      clear hb hb' hle
      go_enter Try.func6, Try.ntmps6
      go_wp2_with (first
        | (go_at_call 9; refine (word_awake _).mono ?_; rintro e w1 ⟨rfl, hb1⟩; have HB1 := Lib.hid (HB0.out.trans (hb1.mono (by simp; omega))); have HC := Lib.hid hb1; have c1 : w1.cell? ⟨w.heap.size, 0, none⟩ = some (.string s) := (hb1.cell (by simp; omega)).trans (by simp); clear hb1))
      refine (HW.out _).mono ?_
      rintro e w3 ⟨v, rfl, hr, hb3⟩
      have HB3 := Lib.hid (HB1.out.trans (hb3.mono HB1.out.size))
      obtain ⟨va, vc, hv⟩ := hr.shape
      subst hv
      have d1 : w3.cell? ⟨w.heap.size, 0, none⟩ = some (.string s) := (hb3.cell (World.block_lt_of_cell? _ _ c1)).trans c1
      have c2 : w1.cell? ⟨w.heap.size + 1, 0, none⟩ = some (.int .i64 m) := (HC.out.cell (by simp)).trans (by simp)
      have d2 : w3.cell? ⟨w.heap.size + 1, 0, none⟩ = some (.int .i64 m) := (hb3.cell (World.block_lt_of_cell? _ _ c2)).trans c2
      have HT3 := Lib.hid (HT.out w3 d1 d2)
      clear hr hb3 c1 c2 HC HB1 HT HW
      go_wp2_with (go_at_call 22; refine HT3.out.mono ?_; rintro e w4 ⟨rfl, hb4⟩; have HB4 := Lib.hid (HB3.out.trans (hb4.mono HB3.out.size)); have e2 : w4.cell? ⟨w.heap.size + 1, 0, none⟩ = some (.int .i64 m) := (hb4.cell (World.block_lt_of_cell? _ _ d2)).trans d2; clear hb4 d1 d2)
      go_ret
      exact ⟨rfl, HB4.out⟩
end Go.Proofs.Ytnepnfjghafccaa
