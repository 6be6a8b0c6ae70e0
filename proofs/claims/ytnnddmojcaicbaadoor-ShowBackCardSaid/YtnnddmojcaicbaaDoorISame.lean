/- Are two instances the same: package inst's answer, and the law's own: both are sameI. -/
import Derived.Test.YtnnddmojcaicbaaDoorISameL
import Derived.Test.YtnnddmojcaicbaaDoorIPick
import Derived.Deep.CutRange
namespace Go.Proofs.YtnnddmojcaicbaaDoor
open Go.RowKit

variable {w wr w2 : World} {A1 A2 : InA} {x y : Ins}
theorem cells2s {gb : Nat} {y1 y2 : Value} {T : TypeId} (h : w.heap[gb]? = some (.cells #[y1, y2] T (0, 0))) : w.cell? ⟨gb, 0, none⟩ = some y1 ∧ w.cell? ⟨gb, 1, none⟩ = some y2 := by simp [World.cell?, h]
/-- Are they the same? -/
def sameI (x y : Ins) : Bool := (x.en == y.en) && (x.tm == y.tm) && (x.tr == y.tr) && (x.bm == y.bm) && (x.br == y.br) && decide (x.sats = y.sats) && decide (x.cus = y.cus) && decide (x.cost = y.cost) && decide (x.time = y.time)
theorem sameI_refl (x : Ins) : sameI x x = true := by simp [sameI]
/-- Both are boxed. -/
structure Two (w wr : World) (A1 : InA) (x : Ins) (A2 : InA) (y : Ins) : Prop where
  one : XBox w wr w.heap.size A1 x
  two : XBox w wr (w.heap.size + 1) A2 y
theorem Two.make (w : World) (A1 : InA) (x : Ins) (A2 : InA) (y : Ins) : Two w ((w.alloc (.cells (insC A1 x) 38)).alloc (.cells (insC A2 y) 38)) A1 x A2 y := by
  have h := XBox.make (Below.refl w.heap.size w) A1 x
  have h2 := XBox.make h.below A2 y
  have e : (w.alloc (.cells (insC A1 x) 38)).heap.size = w.heap.size + 1 := by simp
  rw [e] at h2
  exact ⟨h.later (below1c _ _), h2⟩
theorem Two.later (h : Two w wr A1 x A2 y) (hb : Below wr.heap.size wr w2) : Two w w2 A1 x A2 y := ⟨h.one.later hb, h.two.later hb⟩
set_option maxHeartbeats 4000000 in
set_option maxRecDepth 100000 in
theorem lawSame_any (A1 A2 : InA) (x y : Ins) (w : World) (hx : IsIns w.heap.size w A1 x) (hy : IsIns w.heap.size w A2 y) (hl : x.light = true) :
    Calls Tryd.prog 17 #[.agg (insC A1 x), .agg (insC A2 y)] w fun e w' => e = .returned (.bool (sameI x y)) ∧ Below w.heap.size w w' := by
  obtain ⟨l1, l2, l3, l4, l5, l6⟩ := light_parts hl
  have HL5 : Hid (∀ (i : Nat) (r : List Int), x.cost[i]? = some r → r.length ≤ 1000) := Lib.hid (fun i r hr => Nat.le_trans (l5 i r hr) (by omega))
  have HL6 : Hid (∀ (i : Nat) (r : List Int), x.time[i]? = some r → r.length ≤ 1000) := Lib.hid (fun i r hr => Nat.le_trans (l6 i r hr) (by omega))
  have H1 := Lib.hid hx
  have H2 := Lib.hid hy
  have HT := Lib.hid (Two.make w A1 x A2 y)
  clear hx hy hl l5 l6
  unfold insC at *
  have MK : True := trivial
  cases b0 : (x.en == y.en) with
  | false =>
    have HE : Hid (sameI x y = false) := Lib.hid (by simp only [sameI, b0, Bool.false_and])
    go_enter Tryd.func17, Tryd.ntmps17
    go_upto_region 2 with fail
    simp only [List.append]
    go_wp2_with fail
    go_ret
    exact ⟨ret_boolE HE.out.symm, HT.out.one.below⟩
  | true =>
    cases b1 : (x.tm == y.tm) with
    | false =>
      have HE : Hid (sameI x y = false) := Lib.hid (by simp only [sameI, b1, Bool.and_false, Bool.false_and])
      go_enter Tryd.func17, Tryd.ntmps17
      go_upto_region 2 with fail
      simp only [List.append]
      go_wp2_with fail
      go_ret
      exact ⟨ret_boolE HE.out.symm, HT.out.one.below⟩
    | true =>
      cases b2 : (x.tr == y.tr) with
      | false =>
        have HE : Hid (sameI x y = false) := Lib.hid (by simp only [sameI, b2, Bool.and_false, Bool.false_and])
        go_enter Tryd.func17, Tryd.ntmps17
        go_upto_region 2 with fail
        simp only [List.append]
        go_wp2_with fail
        go_ret
        exact ⟨ret_boolE HE.out.symm, HT.out.one.below⟩
      | true =>
        cases b3 : (x.bm == y.bm) with
        | false =>
          have HE : Hid (sameI x y = false) := Lib.hid (by simp only [sameI, b3, Bool.and_false, Bool.false_and])
          go_enter Tryd.func17, Tryd.ntmps17
          go_upto_region 2 with fail
          simp only [List.append]
          go_wp2_with fail
          go_ret
          exact ⟨ret_boolE HE.out.symm, HT.out.one.below⟩
        | true =>
          cases b4 : (x.br == y.br) with
          | false =>
            have HE : Hid (sameI x y = false) := Lib.hid (by simp only [sameI, b4, Bool.and_false, Bool.false_and])
            go_enter Tryd.func17, Tryd.ntmps17
            go_upto_region 2 with fail
            simp only [List.append]
            go_wp2_with fail
            go_ret
            exact ⟨ret_boolE HE.out.symm, HT.out.one.below⟩
          | true =>
            cases b5 : decide (x.sats = y.sats) with
            | false =>
              have HE : Hid (sameI x y = false) := Lib.hid (by simp only [sameI, b5, Bool.and_false, Bool.false_and])
              go_enter Tryd.func17, Tryd.ntmps17
              go_upto_region 2 with fail
              simp only [List.append]
              go_wp2_with (first | (go_at_call 42; refine (eqSatb _ (H1.out.sats.later HT.out.one.below) (H2.out.sats.later HT.out.one.below) (by omega) _ b5).mono ?_; rintro e w3 ⟨rfl, hb3⟩; have HT3 := Lib.hid (HT.out.later hb3); clear hb3; (try clear p0 p1 p2 p3 p4 p5 p6 p7 p8 q0 q1 q2 q3 q4 q5 q6 q7 q8); obtain ⟨p0, p1, p2, p3, p4, p5, p6, p7, p8⟩ := HT3.out.one.cells; obtain ⟨q0, q1, q2, q3, q4, q5, q6, q7, q8⟩ := HT3.out.two.cells))
              go_ret
              exact ⟨ret_boolE HE.out.symm, HT3.out.one.below⟩
            | true =>
              cases b6 : decide (x.cus = y.cus) with
              | false =>
                have HE : Hid (sameI x y = false) := Lib.hid (by simp only [sameI, b6, Bool.and_false, Bool.false_and])
                go_enter Tryd.func17, Tryd.ntmps17
                go_upto_region 2 with fail
                simp only [List.append]
                go_wp2_with (first | (go_at_call 42; refine (eqSatb _ (H1.out.sats.later HT.out.one.below) (H2.out.sats.later HT.out.one.below) (by omega) _ b5).mono ?_; rintro e w3 ⟨rfl, hb3⟩; have HT3 := Lib.hid (HT.out.later hb3); clear hb3; (try clear p0 p1 p2 p3 p4 p5 p6 p7 p8 q0 q1 q2 q3 q4 q5 q6 q7 q8); obtain ⟨p0, p1, p2, p3, p4, p5, p6, p7, p8⟩ := HT3.out.one.cells; obtain ⟨q0, q1, q2, q3, q4, q5, q6, q7, q8⟩ := HT3.out.two.cells) | (go_at_call 43; refine (eqCusb _ (H1.out.cus.later HT3.out.one.below) (H2.out.cus.later HT3.out.one.below) (by omega) _ b6).mono ?_; rintro e w4 ⟨rfl, hb4⟩; have HT4 := Lib.hid (HT3.out.later hb4); clear hb4; (try clear p0 p1 p2 p3 p4 p5 p6 p7 p8 q0 q1 q2 q3 q4 q5 q6 q7 q8); obtain ⟨p0, p1, p2, p3, p4, p5, p6, p7, p8⟩ := HT4.out.one.cells; obtain ⟨q0, q1, q2, q3, q4, q5, q6, q7, q8⟩ := HT4.out.two.cells))
                go_ret
                exact ⟨ret_boolE HE.out.symm, HT4.out.one.below⟩
              | true =>
                cases b7 : decide (x.cost = y.cost) with
                | false =>
                  have HE : Hid (sameI x y = false) := Lib.hid (by simp only [sameI, b7, Bool.and_false, Bool.false_and])
                  go_enter Tryd.func17, Tryd.ntmps17
                  go_upto_region 2 with fail
                  simp only [List.append]
                  go_wp2_with (first | (go_at_call 42; refine (eqSatb _ (H1.out.sats.later HT.out.one.below) (H2.out.sats.later HT.out.one.below) (by omega) _ b5).mono ?_; rintro e w3 ⟨rfl, hb3⟩; have HT3 := Lib.hid (HT.out.later hb3); clear hb3; (try clear p0 p1 p2 p3 p4 p5 p6 p7 p8 q0 q1 q2 q3 q4 q5 q6 q7 q8); obtain ⟨p0, p1, p2, p3, p4, p5, p6, p7, p8⟩ := HT3.out.one.cells; obtain ⟨q0, q1, q2, q3, q4, q5, q6, q7, q8⟩ := HT3.out.two.cells) | (go_at_call 43; refine (eqCusb _ (H1.out.cus.later HT3.out.one.below) (H2.out.cus.later HT3.out.one.below) (by omega) _ b6).mono ?_; rintro e w4 ⟨rfl, hb4⟩; have HT4 := Lib.hid (HT3.out.later hb4); clear hb4; (try clear p0 p1 p2 p3 p4 p5 p6 p7 p8 q0 q1 q2 q3 q4 q5 q6 q7 q8); obtain ⟨p0, p1, p2, p3, p4, p5, p6, p7, p8⟩ := HT4.out.one.cells; obtain ⟨q0, q1, q2, q3, q4, q5, q6, q7, q8⟩ := HT4.out.two.cells) | (go_at_call 40; clear MK; refine (law1_any _ (H1.out.cost.later HT4.out.one.below) (H2.out.cost.later HT4.out.one.below) (by omega) HL5.out _ b7).mono ?_; rintro e w5 ⟨rfl, hb5⟩; have HT5 := Lib.hid (HT4.out.later hb5); clear hb5; (try clear p0 p1 p2 p3 p4 p5 p6 p7 p8 q0 q1 q2 q3 q4 q5 q6 q7 q8); obtain ⟨p0, p1, p2, p3, p4, p5, p6, p7, p8⟩ := HT5.out.one.cells; obtain ⟨q0, q1, q2, q3, q4, q5, q6, q7, q8⟩ := HT5.out.two.cells))
                  go_ret
                  exact ⟨ret_boolE HE.out.symm, HT5.out.one.below⟩
                | true =>
                  cases b8 : decide (x.time = y.time) with
                  | false =>
                    have HE : Hid (sameI x y = false) := Lib.hid (by simp only [sameI, b8, Bool.and_false])
                    go_enter Tryd.func17, Tryd.ntmps17
                    go_upto_region 2 with fail
                    simp only [List.append]
                    go_wp2_with (first | (go_at_call 42; refine (eqSatb _ (H1.out.sats.later HT.out.one.below) (H2.out.sats.later HT.out.one.below) (by omega) _ b5).mono ?_; rintro e w3 ⟨rfl, hb3⟩; have HT3 := Lib.hid (HT.out.later hb3); clear hb3; (try clear p0 p1 p2 p3 p4 p5 p6 p7 p8 q0 q1 q2 q3 q4 q5 q6 q7 q8); obtain ⟨p0, p1, p2, p3, p4, p5, p6, p7, p8⟩ := HT3.out.one.cells; obtain ⟨q0, q1, q2, q3, q4, q5, q6, q7, q8⟩ := HT3.out.two.cells) | (go_at_call 43; refine (eqCusb _ (H1.out.cus.later HT3.out.one.below) (H2.out.cus.later HT3.out.one.below) (by omega) _ b6).mono ?_; rintro e w4 ⟨rfl, hb4⟩; have HT4 := Lib.hid (HT3.out.later hb4); clear hb4; (try clear p0 p1 p2 p3 p4 p5 p6 p7 p8 q0 q1 q2 q3 q4 q5 q6 q7 q8); obtain ⟨p0, p1, p2, p3, p4, p5, p6, p7, p8⟩ := HT4.out.one.cells; obtain ⟨q0, q1, q2, q3, q4, q5, q6, q7, q8⟩ := HT4.out.two.cells) | (go_at_call 40; clear MK; refine (law1_any _ (H1.out.cost.later HT4.out.one.below) (H2.out.cost.later HT4.out.one.below) (by omega) HL5.out _ b7).mono ?_; rintro e w5 ⟨rfl, hb5⟩; have HT5 := Lib.hid (HT4.out.later hb5); clear hb5; (try clear p0 p1 p2 p3 p4 p5 p6 p7 p8 q0 q1 q2 q3 q4 q5 q6 q7 q8); obtain ⟨p0, p1, p2, p3, p4, p5, p6, p7, p8⟩ := HT5.out.one.cells; obtain ⟨q0, q1, q2, q3, q4, q5, q6, q7, q8⟩ := HT5.out.two.cells) | (go_at_call 40; refine (law1_any _ (H1.out.time.later HT5.out.one.below) (H2.out.time.later HT5.out.one.below) (by omega) HL6.out _ b8).mono ?_; rintro e w6 ⟨rfl, hb6⟩; have HT6 := Lib.hid (HT5.out.later hb6); clear hb6; (try clear p0 p1 p2 p3 p4 p5 p6 p7 p8 q0 q1 q2 q3 q4 q5 q6 q7 q8); obtain ⟨p0, p1, p2, p3, p4, p5, p6, p7, p8⟩ := HT6.out.one.cells; obtain ⟨q0, q1, q2, q3, q4, q5, q6, q7, q8⟩ := HT6.out.two.cells))
                    go_ret
                    exact ⟨ret_boolE HE.out.symm, HT6.out.one.below⟩
                  | true =>
                    have HE : Hid (sameI x y = true) := Lib.hid (by simp only [sameI, b0, b1, b2, b3, b4, b5, b6, b7, b8, Bool.and_true])
                    go_enter Tryd.func17, Tryd.ntmps17
                    go_upto_region 2 with fail
                    simp only [List.append]
                    go_wp2_with (first | (go_at_call 42; refine (eqSatb _ (H1.out.sats.later HT.out.one.below) (H2.out.sats.later HT.out.one.below) (by omega) _ b5).mono ?_; rintro e w3 ⟨rfl, hb3⟩; have HT3 := Lib.hid (HT.out.later hb3); clear hb3; (try clear p0 p1 p2 p3 p4 p5 p6 p7 p8 q0 q1 q2 q3 q4 q5 q6 q7 q8); obtain ⟨p0, p1, p2, p3, p4, p5, p6, p7, p8⟩ := HT3.out.one.cells; obtain ⟨q0, q1, q2, q3, q4, q5, q6, q7, q8⟩ := HT3.out.two.cells) | (go_at_call 43; refine (eqCusb _ (H1.out.cus.later HT3.out.one.below) (H2.out.cus.later HT3.out.one.below) (by omega) _ b6).mono ?_; rintro e w4 ⟨rfl, hb4⟩; have HT4 := Lib.hid (HT3.out.later hb4); clear hb4; (try clear p0 p1 p2 p3 p4 p5 p6 p7 p8 q0 q1 q2 q3 q4 q5 q6 q7 q8); obtain ⟨p0, p1, p2, p3, p4, p5, p6, p7, p8⟩ := HT4.out.one.cells; obtain ⟨q0, q1, q2, q3, q4, q5, q6, q7, q8⟩ := HT4.out.two.cells) | (go_at_call 40; clear MK; refine (law1_any _ (H1.out.cost.later HT4.out.one.below) (H2.out.cost.later HT4.out.one.below) (by omega) HL5.out _ b7).mono ?_; rintro e w5 ⟨rfl, hb5⟩; have HT5 := Lib.hid (HT4.out.later hb5); clear hb5; (try clear p0 p1 p2 p3 p4 p5 p6 p7 p8 q0 q1 q2 q3 q4 q5 q6 q7 q8); obtain ⟨p0, p1, p2, p3, p4, p5, p6, p7, p8⟩ := HT5.out.one.cells; obtain ⟨q0, q1, q2, q3, q4, q5, q6, q7, q8⟩ := HT5.out.two.cells) | (go_at_call 40; refine (law1_any _ (H1.out.time.later HT5.out.one.below) (H2.out.time.later HT5.out.one.below) (by omega) HL6.out _ b8).mono ?_; rintro e w6 ⟨rfl, hb6⟩; have HT6 := Lib.hid (HT5.out.later hb6); clear hb6; (try clear p0 p1 p2 p3 p4 p5 p6 p7 p8 q0 q1 q2 q3 q4 q5 q6 q7 q8); obtain ⟨p0, p1, p2, p3, p4, p5, p6, p7, p8⟩ := HT6.out.one.cells; obtain ⟨q0, q1, q2, q3, q4, q5, q6, q7, q8⟩ := HT6.out.two.cells))
                    go_ret
                    exact ⟨ret_boolE HE.out.symm, HT6.out.one.below⟩
end Go.Proofs.YtnnddmojcaicbaaDoor
