/- Are two instances the same: package inst's answer is sameI. -/
import Derived.Test.YtkapknfcepcijaaISame
namespace Go.Proofs.Ytkapknfcepcijaa
open Go.RowKit

variable {w wr w2 : World} {A1 A2 : InA} {x y : Ins}
set_option maxHeartbeats 4000000 in
set_option maxRecDepth 100000 in
theorem same_any (A1 A2 : InA) (x y : Ins) (w : World) (hx : IsIns w.heap.size w A1 x) (hy : IsIns w.heap.size w A2 y) (hl : x.light = true) :
    Calls Try.prog 17 #[.agg (insC A1 x), .agg (insC A2 y)] w fun e w' => e = .returned (.bool (sameI x y)) ∧ Below w.heap.size w w' := by
  obtain ⟨l1, l2, l3, l4, l5, l6⟩ := light_parts hl
  have HL5 : Hid (∀ (i : Nat) (r : List Int), x.cost[i]? = some r → r.length ≤ 1000) := Lib.hid (fun i r hr => Nat.le_trans (l5 i r hr) (by omega))
  have HL6 : Hid (∀ (i : Nat) (r : List Int), x.time[i]? = some r → r.length ≤ 1000) := Lib.hid (fun i r hr => Nat.le_trans (l6 i r hr) (by omega))
  have H1 := Lib.hid hx
  have H2 := Lib.hid hy
  have HT := Lib.hid (Two.make w A1 x A2 y)
  clear hx hy hl l5 l6
  unfold insC at *
  have MK : True := trivial
  by_cases c0 : x.en = y.en
  · have HC0 := Lib.hid c0
    have d0 : (x.en != y.en) = false := by simpa using c0
    clear c0
    by_cases c1 : x.tm = y.tm ∧ x.tr = y.tr
    · have HC1 := Lib.hid c1
      have d1 : ∀ W, (binOp .neq 23 (.agg #[.int .i64 x.tm, .int .i64 x.tr]) (.agg #[.int .i64 y.tm, .int .i64 y.tr])).run Try.prog W = .ok (.bool false) W := by rw [c1.1, c1.2]; exact neqFleet_same y.tm y.tr
      clear c1
      by_cases c2 : x.bm = y.bm ∧ x.br = y.br
      · have HC2 := Lib.hid c2
        have d2 : ∀ W, (binOp .neq 23 (.agg #[.int .i64 x.bm, .int .i64 x.br]) (.agg #[.int .i64 y.bm, .int .i64 y.br])).run Try.prog W = .ok (.bool false) W := by rw [c2.1, c2.2]; exact neqFleet_same y.bm y.br
        clear c2
        cases b5 : decide (x.sats = y.sats) with
        | false =>
          have HE : Hid (sameI x y = false) := Lib.hid (by simp only [sameI, b5, Bool.and_false, Bool.false_and])
          go_enter Try.func17, Try.ntmps17
          go_wp2_with (first | (go_at_call 27; refine (eqSatb _ (H1.out.sats.later HT.out.one.below) (H2.out.sats.later HT.out.one.below) (by omega) _ b5).mono ?_; rintro e w3 ⟨rfl, hb3⟩; have HT3 := Lib.hid (HT.out.later hb3); clear hb3; (try clear p0 p1 p2 p3 p4 p5 p6 p7 p8 q0 q1 q2 q3 q4 q5 q6 q7 q8); obtain ⟨p0, p1, p2, p3, p4, p5, p6, p7, p8⟩ := HT3.out.one.cells; obtain ⟨q0, q1, q2, q3, q4, q5, q6, q7, q8⟩ := HT3.out.two.cells))
          go_ret
          exact ⟨ret_boolE HE.out.symm, HT3.out.one.below⟩
        | true =>
          cases b6 : decide (x.cus = y.cus) with
          | false =>
            have HE : Hid (sameI x y = false) := Lib.hid (by simp only [sameI, b6, Bool.and_false, Bool.false_and])
            go_enter Try.func17, Try.ntmps17
            go_wp2_with (first | (go_at_call 27; refine (eqSatb _ (H1.out.sats.later HT.out.one.below) (H2.out.sats.later HT.out.one.below) (by omega) _ b5).mono ?_; rintro e w3 ⟨rfl, hb3⟩; have HT3 := Lib.hid (HT.out.later hb3); clear hb3; (try clear p0 p1 p2 p3 p4 p5 p6 p7 p8 q0 q1 q2 q3 q4 q5 q6 q7 q8); obtain ⟨p0, p1, p2, p3, p4, p5, p6, p7, p8⟩ := HT3.out.one.cells; obtain ⟨q0, q1, q2, q3, q4, q5, q6, q7, q8⟩ := HT3.out.two.cells) | (go_at_call 28; refine (eqCusb _ (H1.out.cus.later HT3.out.one.below) (H2.out.cus.later HT3.out.one.below) (by omega) _ b6).mono ?_; rintro e w4 ⟨rfl, hb4⟩; have HT4 := Lib.hid (HT3.out.later hb4); clear hb4; (try clear p0 p1 p2 p3 p4 p5 p6 p7 p8 q0 q1 q2 q3 q4 q5 q6 q7 q8); obtain ⟨p0, p1, p2, p3, p4, p5, p6, p7, p8⟩ := HT4.out.one.cells; obtain ⟨q0, q1, q2, q3, q4, q5, q6, q7, q8⟩ := HT4.out.two.cells))
            go_ret
            exact ⟨ret_boolE HE.out.symm, HT4.out.one.below⟩
          | true =>
            cases b7 : decide (x.cost = y.cost) with
            | false =>
              have HE : Hid (sameI x y = false) := Lib.hid (by simp only [sameI, b7, Bool.and_false, Bool.false_and])
              go_enter Try.func17, Try.ntmps17
              go_wp2_with (first | (go_at_call 27; refine (eqSatb _ (H1.out.sats.later HT.out.one.below) (H2.out.sats.later HT.out.one.below) (by omega) _ b5).mono ?_; rintro e w3 ⟨rfl, hb3⟩; have HT3 := Lib.hid (HT.out.later hb3); clear hb3; (try clear p0 p1 p2 p3 p4 p5 p6 p7 p8 q0 q1 q2 q3 q4 q5 q6 q7 q8); obtain ⟨p0, p1, p2, p3, p4, p5, p6, p7, p8⟩ := HT3.out.one.cells; obtain ⟨q0, q1, q2, q3, q4, q5, q6, q7, q8⟩ := HT3.out.two.cells) | (go_at_call 28; refine (eqCusb _ (H1.out.cus.later HT3.out.one.below) (H2.out.cus.later HT3.out.one.below) (by omega) _ b6).mono ?_; rintro e w4 ⟨rfl, hb4⟩; have HT4 := Lib.hid (HT3.out.later hb4); clear hb4; (try clear p0 p1 p2 p3 p4 p5 p6 p7 p8 q0 q1 q2 q3 q4 q5 q6 q7 q8); obtain ⟨p0, p1, p2, p3, p4, p5, p6, p7, p8⟩ := HT4.out.one.cells; obtain ⟨q0, q1, q2, q3, q4, q5, q6, q7, q8⟩ := HT4.out.two.cells) | (go_at_call 29; clear MK; refine (matrices_any A2 y _).mono ?_; rintro e w5 ⟨rfl, hb5⟩; have HT5 := Lib.hid (HT4.out.later hb5); clear hb5; have HG5 : Hid ((w5.alloc (.cells #[.slice A2.ka y.cost.length A2.kc, .slice A2.ta y.time.length A2.tc] 64)).heap[w5.heap.size]? = some (.cells #[.slice A2.ka y.cost.length A2.kc, .slice A2.ta y.time.length A2.tc] 64 (0, 0))) := Lib.hid (heap_alloc_new _ _); have HU5 := Lib.hid (HT5.out.later (below1c w5 (.cells #[.slice A2.ka y.cost.length A2.kc, .slice A2.ta y.time.length A2.tc] 64))); (try clear p0 p1 p2 p3 p4 p5 p6 p7 p8 q0 q1 q2 q3 q4 q5 q6 q7 q8); obtain ⟨p0, p1, p2, p3, p4, p5, p6, p7, p8⟩ := HU5.out.one.cells; obtain ⟨q0, q1, q2, q3, q4, q5, q6, q7, q8⟩ := HU5.out.two.cells) | (go_at_call 29; refine (matrices_any A1 x _).mono ?_; rintro e w6 ⟨rfl, hb6⟩; have HT6 := Lib.hid (HU5.out.later hb6); have HG6 : Hid (w6.heap[w5.heap.size]? = some (.cells #[.slice A2.ka y.cost.length A2.kc, .slice A2.ta y.time.length A2.tc] 64 (0, 0))) := Lib.hid ((hb6.block _ (Array.getElem?_eq_some_iff.1 HG5.out).1).trans HG5.out); clear hb6; (try clear p0 p1 p2 p3 p4 p5 p6 p7 p8 q0 q1 q2 q3 q4 q5 q6 q7 q8)))
              have hx0 : ∀ W, (Instr.index 64 (.agg #[.slice A1.ka x.cost.length A1.kc, .slice A1.ta x.time.length A1.tc]) (.int .i64 0)).run Try.prog W = .ok (.slice A1.ka x.cost.length A1.kc) W := fun W => by kernel_rfl
              have hx1 : ∀ W, (Instr.index 64 (.agg #[.slice A1.ka x.cost.length A1.kc, .slice A1.ta x.time.length A1.tc]) (.int .i64 1)).run Try.prog W = .ok (.slice A1.ta x.time.length A1.tc) W := fun W => by kernel_rfl
              obtain ⟨m0, m1⟩ := cells2s HG6.out
              refine wp_loop_rounds 3 ?_
              rw [rounds_succ]
              go_wp2_with (go_at_call 30; refine (sameRows_any _ (H1.out.cost.later HT6.out.one.below) (H2.out.cost.later HT6.out.one.below) (by omega) HL5.out _ b7).mono ?_; rintro e w7 ⟨rfl, hb7⟩; have HT7 := Lib.hid (HT6.out.later hb7); have HG7 : Hid (w7.heap[w5.heap.size]? = some (.cells #[.slice A2.ka y.cost.length A2.kc, .slice A2.ta y.time.length A2.tc] 64 (0, 0))) := Lib.hid ((hb7.block _ (Array.getElem?_eq_some_iff.1 HG6.out).1).trans HG6.out); clear hb7)
              go_ret
              exact ⟨ret_boolE HE.out.symm, HT7.out.one.below⟩
            | true =>
              cases b8 : decide (x.time = y.time) with
              | false =>
                have HE : Hid (sameI x y = false) := Lib.hid (by simp only [sameI, b8, Bool.and_false])
                go_enter Try.func17, Try.ntmps17
                go_wp2_with (first | (go_at_call 27; refine (eqSatb _ (H1.out.sats.later HT.out.one.below) (H2.out.sats.later HT.out.one.below) (by omega) _ b5).mono ?_; rintro e w3 ⟨rfl, hb3⟩; have HT3 := Lib.hid (HT.out.later hb3); clear hb3; (try clear p0 p1 p2 p3 p4 p5 p6 p7 p8 q0 q1 q2 q3 q4 q5 q6 q7 q8); obtain ⟨p0, p1, p2, p3, p4, p5, p6, p7, p8⟩ := HT3.out.one.cells; obtain ⟨q0, q1, q2, q3, q4, q5, q6, q7, q8⟩ := HT3.out.two.cells) | (go_at_call 28; refine (eqCusb _ (H1.out.cus.later HT3.out.one.below) (H2.out.cus.later HT3.out.one.below) (by omega) _ b6).mono ?_; rintro e w4 ⟨rfl, hb4⟩; have HT4 := Lib.hid (HT3.out.later hb4); clear hb4; (try clear p0 p1 p2 p3 p4 p5 p6 p7 p8 q0 q1 q2 q3 q4 q5 q6 q7 q8); obtain ⟨p0, p1, p2, p3, p4, p5, p6, p7, p8⟩ := HT4.out.one.cells; obtain ⟨q0, q1, q2, q3, q4, q5, q6, q7, q8⟩ := HT4.out.two.cells) | (go_at_call 29; clear MK; refine (matrices_any A2 y _).mono ?_; rintro e w5 ⟨rfl, hb5⟩; have HT5 := Lib.hid (HT4.out.later hb5); clear hb5; have HG5 : Hid ((w5.alloc (.cells #[.slice A2.ka y.cost.length A2.kc, .slice A2.ta y.time.length A2.tc] 64)).heap[w5.heap.size]? = some (.cells #[.slice A2.ka y.cost.length A2.kc, .slice A2.ta y.time.length A2.tc] 64 (0, 0))) := Lib.hid (heap_alloc_new _ _); have HU5 := Lib.hid (HT5.out.later (below1c w5 (.cells #[.slice A2.ka y.cost.length A2.kc, .slice A2.ta y.time.length A2.tc] 64))); (try clear p0 p1 p2 p3 p4 p5 p6 p7 p8 q0 q1 q2 q3 q4 q5 q6 q7 q8); obtain ⟨p0, p1, p2, p3, p4, p5, p6, p7, p8⟩ := HU5.out.one.cells; obtain ⟨q0, q1, q2, q3, q4, q5, q6, q7, q8⟩ := HU5.out.two.cells) | (go_at_call 29; refine (matrices_any A1 x _).mono ?_; rintro e w6 ⟨rfl, hb6⟩; have HT6 := Lib.hid (HU5.out.later hb6); have HG6 : Hid (w6.heap[w5.heap.size]? = some (.cells #[.slice A2.ka y.cost.length A2.kc, .slice A2.ta y.time.length A2.tc] 64 (0, 0))) := Lib.hid ((hb6.block _ (Array.getElem?_eq_some_iff.1 HG5.out).1).trans HG5.out); clear hb6; (try clear p0 p1 p2 p3 p4 p5 p6 p7 p8 q0 q1 q2 q3 q4 q5 q6 q7 q8)))
                have hx0 : ∀ W, (Instr.index 64 (.agg #[.slice A1.ka x.cost.length A1.kc, .slice A1.ta x.time.length A1.tc]) (.int .i64 0)).run Try.prog W = .ok (.slice A1.ka x.cost.length A1.kc) W := fun W => by kernel_rfl
                have hx1 : ∀ W, (Instr.index 64 (.agg #[.slice A1.ka x.cost.length A1.kc, .slice A1.ta x.time.length A1.tc]) (.int .i64 1)).run Try.prog W = .ok (.slice A1.ta x.time.length A1.tc) W := fun W => by kernel_rfl
                obtain ⟨m0, m1⟩ := cells2s HG6.out
                refine wp_loop_rounds 3 ?_
                rw [rounds_succ]
                go_wp2_with (go_at_call 30; refine (sameRows_any _ (H1.out.cost.later HT6.out.one.below) (H2.out.cost.later HT6.out.one.below) (by omega) HL5.out _ b7).mono ?_; rintro e w7 ⟨rfl, hb7⟩; have HT7 := Lib.hid (HT6.out.later hb7); have HG7 : Hid (w7.heap[w5.heap.size]? = some (.cells #[.slice A2.ka y.cost.length A2.kc, .slice A2.ta y.time.length A2.tc] 64 (0, 0))) := Lib.hid ((hb7.block _ (Array.getElem?_eq_some_iff.1 HG6.out).1).trans HG6.out); clear hb7)
                clear m0 m1
                obtain ⟨m0, m1⟩ := cells2s HG7.out
                rw [rounds_succ]
                go_wp2_with (go_at_call 30; refine (sameRows_any _ (H1.out.time.later HT7.out.one.below) (H2.out.time.later HT7.out.one.below) (by omega) HL6.out _ b8).mono ?_; rintro e w8 ⟨rfl, hb8⟩; have HT8 := Lib.hid (HT7.out.later hb8); clear hb8)
                go_ret
                exact ⟨ret_boolE HE.out.symm, HT8.out.one.below⟩
              | true =>
                have HE : Hid (sameI x y = true) := Lib.hid (by simp [sameI, HC0.out, HC1.out.1, HC1.out.2, HC2.out.1, HC2.out.2, b5, b6, b7, b8])
                go_enter Try.func17, Try.ntmps17
                go_wp2_with (first | (go_at_call 27; refine (eqSatb _ (H1.out.sats.later HT.out.one.below) (H2.out.sats.later HT.out.one.below) (by omega) _ b5).mono ?_; rintro e w3 ⟨rfl, hb3⟩; have HT3 := Lib.hid (HT.out.later hb3); clear hb3; (try clear p0 p1 p2 p3 p4 p5 p6 p7 p8 q0 q1 q2 q3 q4 q5 q6 q7 q8); obtain ⟨p0, p1, p2, p3, p4, p5, p6, p7, p8⟩ := HT3.out.one.cells; obtain ⟨q0, q1, q2, q3, q4, q5, q6, q7, q8⟩ := HT3.out.two.cells) | (go_at_call 28; refine (eqCusb _ (H1.out.cus.later HT3.out.one.below) (H2.out.cus.later HT3.out.one.below) (by omega) _ b6).mono ?_; rintro e w4 ⟨rfl, hb4⟩; have HT4 := Lib.hid (HT3.out.later hb4); clear hb4; (try clear p0 p1 p2 p3 p4 p5 p6 p7 p8 q0 q1 q2 q3 q4 q5 q6 q7 q8); obtain ⟨p0, p1, p2, p3, p4, p5, p6, p7, p8⟩ := HT4.out.one.cells; obtain ⟨q0, q1, q2, q3, q4, q5, q6, q7, q8⟩ := HT4.out.two.cells) | (go_at_call 29; clear MK; refine (matrices_any A2 y _).mono ?_; rintro e w5 ⟨rfl, hb5⟩; have HT5 := Lib.hid (HT4.out.later hb5); clear hb5; have HG5 : Hid ((w5.alloc (.cells #[.slice A2.ka y.cost.length A2.kc, .slice A2.ta y.time.length A2.tc] 64)).heap[w5.heap.size]? = some (.cells #[.slice A2.ka y.cost.length A2.kc, .slice A2.ta y.time.length A2.tc] 64 (0, 0))) := Lib.hid (heap_alloc_new _ _); have HU5 := Lib.hid (HT5.out.later (below1c w5 (.cells #[.slice A2.ka y.cost.length A2.kc, .slice A2.ta y.time.length A2.tc] 64))); (try clear p0 p1 p2 p3 p4 p5 p6 p7 p8 q0 q1 q2 q3 q4 q5 q6 q7 q8); obtain ⟨p0, p1, p2, p3, p4, p5, p6, p7, p8⟩ := HU5.out.one.cells; obtain ⟨q0, q1, q2, q3, q4, q5, q6, q7, q8⟩ := HU5.out.two.cells) | (go_at_call 29; refine (matrices_any A1 x _).mono ?_; rintro e w6 ⟨rfl, hb6⟩; have HT6 := Lib.hid (HU5.out.later hb6); have HG6 : Hid (w6.heap[w5.heap.size]? = some (.cells #[.slice A2.ka y.cost.length A2.kc, .slice A2.ta y.time.length A2.tc] 64 (0, 0))) := Lib.hid ((hb6.block _ (Array.getElem?_eq_some_iff.1 HG5.out).1).trans HG5.out); clear hb6; (try clear p0 p1 p2 p3 p4 p5 p6 p7 p8 q0 q1 q2 q3 q4 q5 q6 q7 q8)))
                have hx0 : ∀ W, (Instr.index 64 (.agg #[.slice A1.ka x.cost.length A1.kc, .slice A1.ta x.time.length A1.tc]) (.int .i64 0)).run Try.prog W = .ok (.slice A1.ka x.cost.length A1.kc) W := fun W => by kernel_rfl
                have hx1 : ∀ W, (Instr.index 64 (.agg #[.slice A1.ka x.cost.length A1.kc, .slice A1.ta x.time.length A1.tc]) (.int .i64 1)).run Try.prog W = .ok (.slice A1.ta x.time.length A1.tc) W := fun W => by kernel_rfl
                obtain ⟨m0, m1⟩ := cells2s HG6.out
                refine wp_loop_rounds 3 ?_
                rw [rounds_succ]
                go_wp2_with (go_at_call 30; refine (sameRows_any _ (H1.out.cost.later HT6.out.one.below) (H2.out.cost.later HT6.out.one.below) (by omega) HL5.out _ b7).mono ?_; rintro e w7 ⟨rfl, hb7⟩; have HT7 := Lib.hid (HT6.out.later hb7); have HG7 : Hid (w7.heap[w5.heap.size]? = some (.cells #[.slice A2.ka y.cost.length A2.kc, .slice A2.ta y.time.length A2.tc] 64 (0, 0))) := Lib.hid ((hb7.block _ (Array.getElem?_eq_some_iff.1 HG6.out).1).trans HG6.out); clear hb7)
                clear m0 m1
                obtain ⟨m0, m1⟩ := cells2s HG7.out
                rw [rounds_succ]
                go_wp2_with (go_at_call 30; refine (sameRows_any _ (H1.out.time.later HT7.out.one.below) (H2.out.time.later HT7.out.one.below) (by omega) HL6.out _ b8).mono ?_; rintro e w8 ⟨rfl, hb8⟩; have HT8 := Lib.hid (HT7.out.later hb8); clear hb8)
                clear m0 m1
                rw [rounds_succ]
                go_wp2_with fail
                go_ret
                exact ⟨ret_boolE HE.out.symm, HT8.out.one.below⟩
      · have HE : Hid (sameI x y = false) := Lib.hid (by unfold sameI; rcases Classical.not_and_iff_not_or_not.1 c2 with h | h <;> simp [h])
        have d2 := neqFleet_other c2
        go_enter Try.func17, Try.ntmps17
        go_wp2_with fail
        go_ret
        exact ⟨ret_boolE HE.out.symm, HT.out.one.below⟩
    · have HE : Hid (sameI x y = false) := Lib.hid (by unfold sameI; rcases Classical.not_and_iff_not_or_not.1 c1 with h | h <;> simp [h])
      have d1 := neqFleet_other c1
      go_enter Try.func17, Try.ntmps17
      go_wp2_with fail
      go_ret
      exact ⟨ret_boolE HE.out.symm, HT.out.one.below⟩
  · have HE : Hid (sameI x y = false) := Lib.hid (by simp [sameI, c0])
    have d0 : (x.en != y.en) = true := by simpa using c0
    go_enter Try.func17, Try.ntmps17
    go_wp2_with fail
    go_ret
    exact ⟨ret_boolE HE.out.symm, HT.out.one.below⟩
end Go.Proofs.Ytkapknfcepcijaa
