/- Layer 17: of an instance that may not be. -/
import Derived.Test.YtmnbpnjakbihdaaPlLi
namespace Go.Proofs.Ytmnbpnjakbihdaa
open Go.RowKit

variable {w wr w2 : World} {A : InA} {x : Ins} {P : PlA} {p : Pl}
set_option maxHeartbeats 8000000 in
set_option maxRecDepth 100000 in
theorem planNone_walk (A : InA) (x : Ins) (P : PlA) (p : Pl) (ra : Option Addr) (n rc : Nat) (l : List Int) (w : World) (hx : IsIns w.heap.size w A x) (hlen : x.Len) (hp : IsPl w.heap.size w P p) (_hl : IsNums w.heap.size w ra n l) (_hn : n ≤ 9223372036854775807) :
    Calls Try.prog 8 #[.agg (insC A x), .agg (plC P p), .slice ra n rc] w fun e w' => e = .returned (.bool true) ∧ Below w.heap.size w w' := by
  have H0 := Lib.hid (PX.make w A x P p)
  have HCS : Hid (∀ W, PX w W A x P p → W.cell? ⟨w.heap.size, 0, none⟩ = some (.int .i64 x.en) ∧ W.cell? ⟨w.heap.size, 1, none⟩ = some (.int .i64 x.tm) ∧ W.cell? ⟨w.heap.size, 2, none⟩ = some (.int .i64 x.tr) ∧ W.cell? ⟨w.heap.size, 3, none⟩ = some (.int .i64 x.bm) ∧ W.cell? ⟨w.heap.size, 4, none⟩ = some (.int .i64 x.br) ∧ W.cell? ⟨w.heap.size, 5, none⟩ = some (.slice A.sa x.sats.length A.sc) ∧ W.cell? ⟨w.heap.size, 6, none⟩ = some (.slice A.ca x.cus.length A.cc) ∧ W.cell? ⟨w.heap.size, 7, none⟩ = some (.slice A.ka x.cost.length A.kc) ∧ W.cell? ⟨w.heap.size, 8, none⟩ = some (.slice A.ta x.time.length A.tc) ∧ W.cell? ⟨w.heap.size + 1, 0, none⟩ = some (.slice P.ta p.tr.length P.tc) ∧ W.cell? ⟨w.heap.size + 1, 1, none⟩ = some (.slice P.ba p.bk.length P.bc)) := Lib.hid (fun W h => h.cells)
  have HAW : Hid (∀ W, Below w.heap.size w W → Calls Try.prog 9 #[] W fun e w' => e = .returned (.bool true) ∧ Below W.heap.size W w') := Lib.hid (fun W _ => plan_awake W)
  have hl3 := hlen.cost
  have hl4 := hlen.time
  have hl2 := hlen.cus
  obtain ⟨c0, c1, c2, c3, c4, c5, c6, c7, c8, d0, d1⟩ := HCS.out _ H0.out
  by_cases h1 : (x.cus.length : Int) > 60
  · have e1 : decide ((x.cus.length : Int) > 60) = true := decide_eq_true h1
    clear h1
    unfold insC plC at *
    go_enter Try.func8, Try.ntmps8
    go_wp2_with (go_at_call 9; refine (HAW.out _ H0.out.below).mono ?_; rintro e w1 ⟨rfl, hb1⟩; have H1 := Lib.hid (H0.out.later hb1); clear c0 c1 c2 c3 c4 c5 c6 c7 c8 d0 d1 hb1; obtain ⟨c0, c1, c2, c3, c4, c5, c6, c7, c8, d0, d1⟩ := HCS.out _ H1.out)
    go_ret
    exact ⟨rfl, H1.out.below⟩
  have e1 : decide ((x.cus.length : Int) > 60) = false := decide_eq_false h1
  obtain ⟨lb, hlb⟩ : ∃ b, lightP p = b := ⟨_, rfl⟩
  have HLI : Hid (∀ W, Below w.heap.size w W → Calls Try.prog 17 #[.agg (plC P p)] W fun e w' => e = .returned (.bool lb) ∧ Below W.heap.size W w') := Lib.hid (fun W hb => plight_any P p W ((hp.later hb).mono hb.size) lb hlb)
  clear hlb h1
  cases lb with
  | false =>
    unfold insC plC at *
    go_enter Try.func8, Try.ntmps8
    go_wp2_with (first | (go_at_call 9; refine (HAW.out _ H0.out.below).mono ?_; rintro e w1 ⟨rfl, hb1⟩; have H1 := Lib.hid (H0.out.later hb1); clear c0 c1 c2 c3 c4 c5 c6 c7 c8 d0 d1 hb1; obtain ⟨c0, c1, c2, c3, c4, c5, c6, c7, c8, d0, d1⟩ := HCS.out _ H1.out) | (go_at_call 17; refine (HLI.out _ H1.out.below).mono ?_; rintro e w2 ⟨rfl, hb2⟩; have H2 := Lib.hid (H1.out.later hb2); clear c0 c1 c2 c3 c4 c5 c6 c7 c8 d0 d1 hb2; obtain ⟨c0, c1, c2, c3, c4, c5, c6, c7, c8, d0, d1⟩ := HCS.out _ H2.out))
    go_ret
    exact ⟨rfl, H2.out.below⟩
  | true =>
    by_cases h2 : (n : Int) > 30
    · have e2 : decide ((n : Int) > 30) = true := decide_eq_true h2
      clear h2
      unfold insC plC at *
      go_enter Try.func8, Try.ntmps8
      go_wp2_with (first | (go_at_call 9; refine (HAW.out _ H0.out.below).mono ?_; rintro e w1 ⟨rfl, hb1⟩; have H1 := Lib.hid (H0.out.later hb1); clear c0 c1 c2 c3 c4 c5 c6 c7 c8 d0 d1 hb1; obtain ⟨c0, c1, c2, c3, c4, c5, c6, c7, c8, d0, d1⟩ := HCS.out _ H1.out) | (go_at_call 17; refine (HLI.out _ H1.out.below).mono ?_; rintro e w2 ⟨rfl, hb2⟩; have H2 := Lib.hid (H1.out.later hb2); clear c0 c1 c2 c3 c4 c5 c6 c7 c8 d0 d1 hb2; obtain ⟨c0, c1, c2, c3, c4, c5, c6, c7, c8, d0, d1⟩ := HCS.out _ H2.out))
      go_ret
      exact ⟨rfl, H2.out.below⟩
    have e2 : decide ((n : Int) > 30) = false := decide_eq_false h2
    have HCK : Hid (∀ W, Below w.heap.size w W → Calls Try.prog 28 #[.agg (insC A x)] W fun e w' => e = .returned (.int .i64 (instErr x)) ∧ Below W.heap.size W w') := Lib.hid (fun W hb => check_wide A x W ((hx.later hb).mono hb.size) hl3 hl4)
    by_cases h3 : instErr x = 0
    · rw [h3] at HCK
      have e3 : ((0 : Int) == 0) = true := rfl
      clear h2 h3
      unfold insC plC at *
      go_enter Try.func8, Try.ntmps8
      go_wp2_with (first | (go_at_call 9; refine (HAW.out _ H0.out.below).mono ?_; rintro e w1 ⟨rfl, hb1⟩; have H1 := Lib.hid (H0.out.later hb1); clear c0 c1 c2 c3 c4 c5 c6 c7 c8 d0 d1 hb1; obtain ⟨c0, c1, c2, c3, c4, c5, c6, c7, c8, d0, d1⟩ := HCS.out _ H1.out) | (go_at_call 17; refine (HLI.out _ H1.out.below).mono ?_; rintro e w2 ⟨rfl, hb2⟩; have H2 := Lib.hid (H1.out.later hb2); clear c0 c1 c2 c3 c4 c5 c6 c7 c8 d0 d1 hb2; obtain ⟨c0, c1, c2, c3, c4, c5, c6, c7, c8, d0, d1⟩ := HCS.out _ H2.out) | (go_at_call 28; refine (HCK.out _ H2.out.below).mono ?_; rintro e w3 ⟨rfl, hb3⟩; have H3 := Lib.hid (H2.out.later hb3); clear c0 c1 c2 c3 c4 c5 c6 c7 c8 d0 d1 hb3; obtain ⟨c0, c1, c2, c3, c4, c5, c6, c7, c8, d0, d1⟩ := HCS.out _ H3.out))
      go_ret
      exact ⟨rfl, H3.out.below⟩
    have HCO : Hid (∀ W, Below w.heap.size w W → Calls Try.prog 14 #[.agg (insC A x), .agg (plC P p)] W fun e w' => e = .returned (.tuple #[.int .i64 0, .int .i64 (instErr x)]) ∧ Below W.heap.size W w') := Lib.hid (fun W hb => pcost_bad A x P p W ((hx.later hb).mono hb.size) hl3 hl4 h3)
    have HPC : Hid (∀ W, Below w.heap.size w W → Calls Try.prog 15 #[.agg (insC A x), .agg (plC P p)] W fun e w' => e = .returned (.int .i64 (instErr x)) ∧ Below W.heap.size W w') := Lib.hid (fun W hb => pcheck_bad A x P p W ((hx.later hb).mono hb.size) hl3 hl4 h3)
    have HWY : Hid (∀ W, Below w.heap.size w W → Calls Try.prog 19 #[.agg (insC A x), .slice ra n rc] W fun e w' => e = .returned (.int .i64 0) ∧ Below W.heap.size W w') := Lib.hid (fun W hb => wayOf_bad A x ra n rc W ((hx.later hb).mono hb.size) hl3 hl4 h3)
    obtain ⟨u, hu⟩ : ∃ u, instErr x = u := ⟨_, rfl⟩
    rw [hu] at h3 HCK HCO HPC
    have e3 : (u == 0) = false := by simpa using h3
    have e4 : (u == u) = true := by simp
    have e5 : ((0 : Int) == 0) = true := rfl
    clear h2 h3 hu
    unfold insC plC at *
    go_enter Try.func8, Try.ntmps8
    go_upto_region 6 with (first | (go_at_call 9; refine (HAW.out _ H0.out.below).mono ?_; rintro e w1 ⟨rfl, hb1⟩; have H1 := Lib.hid (H0.out.later hb1); clear c0 c1 c2 c3 c4 c5 c6 c7 c8 d0 d1 hb1; obtain ⟨c0, c1, c2, c3, c4, c5, c6, c7, c8, d0, d1⟩ := HCS.out _ H1.out) | (go_at_call 17; refine (HLI.out _ H1.out.below).mono ?_; rintro e w2 ⟨rfl, hb2⟩; have H2 := Lib.hid (H1.out.later hb2); clear c0 c1 c2 c3 c4 c5 c6 c7 c8 d0 d1 hb2; obtain ⟨c0, c1, c2, c3, c4, c5, c6, c7, c8, d0, d1⟩ := HCS.out _ H2.out) | (go_at_call 28; refine (HCK.out _ H2.out.below).mono ?_; rintro e w3 ⟨rfl, hb3⟩; have H3 := Lib.hid (H2.out.later hb3); clear c0 c1 c2 c3 c4 c5 c6 c7 c8 d0 d1 hb3; obtain ⟨c0, c1, c2, c3, c4, c5, c6, c7, c8, d0, d1⟩ := HCS.out _ H3.out) | (go_at_call 14; refine (HCO.out _ H3.out.below).mono ?_; rintro e w4 ⟨rfl, hb4⟩; have H4 := Lib.hid (H3.out.later hb4); clear c0 c1 c2 c3 c4 c5 c6 c7 c8 d0 d1 hb4; obtain ⟨c0, c1, c2, c3, c4, c5, c6, c7, c8, d0, d1⟩ := HCS.out _ H4.out))
    clear c0 c1 c2 c3 c4 c5 c6 c7 c8 d0 d1 H0 H1 H2 H3
    have HH := Lib.hid H4.out.drew
    obtain ⟨c0, c1, c2, c3, c4, c5, c6, c7, c8, d0, d1⟩ := HCS.out _ HH.out
    go_region_held3 (fun W => W.cell? ⟨w.heap.size, 0, none⟩ = some (.int .i64 x.en) ∧ W.cell? ⟨w.heap.size, 1, none⟩ = some (.int .i64 x.tm) ∧ W.cell? ⟨w.heap.size, 2, none⟩ = some (.int .i64 x.tr) ∧ W.cell? ⟨w.heap.size, 3, none⟩ = some (.int .i64 x.bm) ∧ W.cell? ⟨w.heap.size, 4, none⟩ = some (.int .i64 x.br) ∧ W.cell? ⟨w.heap.size, 5, none⟩ = some (.slice A.sa x.sats.length A.sc) ∧ W.cell? ⟨w.heap.size, 6, none⟩ = some (.slice A.ca x.cus.length A.cc) ∧ W.cell? ⟨w.heap.size, 7, none⟩ = some (.slice A.ka x.cost.length A.kc) ∧ W.cell? ⟨w.heap.size, 8, none⟩ = some (.slice A.ta x.time.length A.tc) ∧ W.cell? ⟨w.heap.size + 1, 0, none⟩ = some (.slice P.ta p.tr.length P.tc) ∧ W.cell? ⟨w.heap.size + 1, 1, none⟩ = some (.slice P.ba p.bk.length P.bc))
      (first | assumption | exact HCS.out _ HH.out)
      (first | (go_at_call 15; refine (HPC.out _ HH.out.below).mono ?_; rintro e w9 ⟨rfl, hb9⟩; have HH := Lib.hid (HH.out.later hb9); clear hb9) | (go_at_call 28; refine (HCK.out _ HH.out.below).mono ?_; rintro e w9 ⟨rfl, hb9⟩; have HH := Lib.hid (HH.out.later hb9); clear hb9) | (go_at_call 19; refine (HWY.out _ HH.out.below).mono ?_; rintro e w9 ⟨rfl, hb9⟩; have HH := Lib.hid (HH.out.later hb9); clear hb9))
    clear c0 c1 c2 c3 c4 c5 c6 c7 c8 d0 d1
    go_wp2_with fail
    go_ret
    exact ⟨rfl, HH.out.below⟩
end Go.Proofs.Ytmnbpnjakbihdaa
