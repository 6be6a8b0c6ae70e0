/- Layer 17: any numbers as a plan. -/
import Derived.Test.YtmnbpnjakbihdaaPlCo
namespace Go.Proofs.Ytmnbpnjakbihdaa
open Go.RowKit

variable {w wr w2 : World} {P : PlA} {p : Pl}
set_option maxHeartbeats 8000000 in
set_option maxRecDepth 100000 in
theorem planAny_walk (A : SmA) (s : Sm) (P : PlA) (p : Pl) (w : World) (hs : IsSm w.heap.size w A s) (hp : IsPl w.heap.size w P p) :
    Calls Try.prog 4 #[.agg (smC A s), .agg (plC P p)] w fun e w' => e = .returned (.bool true) ∧ Below w.heap.size w w' := by
  have HS0 := Lib.hid (CBox.make (Below.refl _ w) (smC A s) 26)
  have HQ0 := Lib.hid (CBox.make HS0.out.below (plC P p) 42)
  have hsz : (w.alloc (.cells (smC A s) 26)).heap.size = w.heap.size + 1 := by simp
  rw [hsz] at HQ0
  have HSB := Lib.hid (HS0.out.alloc (.cells (plC P p) 42))
  have HS := Lib.hid hs
  have HP := Lib.hid hp
  have hok := hs.okl
  have HM := Lib.hid (may_make hok)
  clear hsz HS0 hs hp
  obtain ⟨W0, hW0⟩ : ∃ W0, ((w.alloc (.cells (smC A s) 26)).alloc (.cells (plC P p) 42)) = W0 := ⟨_, rfl⟩
  rw [hW0] at HQ0 HSB
  obtain ⟨d0, d1⟩ := HQ0.out.cell2
  obtain ⟨lb, hlb⟩ : ∃ b, lightP p = b := ⟨_, rfl⟩
  have HLI : Hid (∀ W, Below w.heap.size w W → Calls Try.prog 17 #[.agg (plC P p)] W fun e w' => e = .returned (.bool lb) ∧ Below W.heap.size W w') := Lib.hid (fun W hb => plight_any P p W ((HP.out.later hb).mono hb.size) lb hlb)
  clear hlb
  unfold smC plC at *
  go_enter Try.func4, Try.ntmps4
  cases lb with
  | false =>
    go_wp2_with (first
      | (go_at_call 9; refine (plan_awake _).mono ?_; rintro e w1 ⟨rfl, hb1⟩; have HQ1 := Lib.hid (HQ0.out.later hb1); clear d0 d1 hb1; obtain ⟨d0, d1⟩ := HQ1.out.cell2)
      | (go_at_call 17; refine (HLI.out _ HQ1.out.below).mono ?_; rintro e w2 ⟨rfl, hb2⟩; have HQ2 := Lib.hid (HQ1.out.later hb2); clear hb2))
    go_ret
    exact ⟨rfl, HQ2.out.below⟩
  | true =>
    go_upto_region 5 with (first
      | (go_at_call 9; refine (plan_awake _).mono ?_; rintro e w1 ⟨rfl, hb1⟩; have HQ1 := Lib.hid (HQ0.out.later hb1); have HS1 := Lib.hid (HSB.out.later hb1); clear d0 d1 hb1; obtain ⟨d0, d1⟩ := HQ1.out.cell2)
      | (go_at_call 17; refine (HLI.out _ HQ1.out.below).mono ?_; rintro e w2 ⟨rfl, hb2⟩; have HQ2 := Lib.hid (HQ1.out.later hb2); have HS2 := Lib.hid (HS1.out.later hb2); clear hb2))
    clear d0 d1 HQ0 HQ1 HS1 HSB HLI
    have hsm : ∀ k u, (smC A s)[k]? = some u → w2.cell? ⟨w.heap.size, k, none⟩ = some u := fun k u hk => by
      have hb : w2.heap[w.heap.size]? = some (.cells (smC A s) 26 (0, 0)) := HS2.out.blk
      simp only [World.cell?, hb]
      exact hk
    have k0 := hsm 0 _ rfl
    have k1 := hsm 1 _ rfl
    have k2 := hsm 2 _ rfl
    have k3 := hsm 3 _ rfl
    have k4 := hsm 4 _ rfl
    have k5 := hsm 5 _ rfl
    have k6 := hsm 6 _ rfl
    have k7 := hsm 7 _ rfl
    have k8 := hsm 8 _ rfl
    have k9 := hsm 9 _ rfl
    have k10 := hsm 10 _ rfl
    have HMK := Lib.hid (make_any A s w2 ((HS.out.later HQ2.out.below).mono HQ2.out.below.size))
    unfold smC at HMK
    clear hsm
    go_upto_region 6 with (go_at_call 10; refine HMK.out.mono ?_; rintro e w3 ⟨⟨A2, rfl, C, D, VK, VT, hown⟩, hb3⟩; have HI3 := Lib.hid hown.is_; have HQ3 := Lib.hid (HQ2.out.later hb3); clear hown hb3)
    clear k0 k1 k2 k3 k4 k5 k6 k7 k8 k9 k10 HMK
    obtain ⟨X, hX⟩ : ∃ X, makeI s = X := ⟨_, rfl⟩
    rw [hX] at HI3 HM ⊢
    clear hX
    have HX4 := Lib.hid (CBox.make HQ3.out.below (insC A2 X) 37)
    have HQ4 := Lib.hid (HQ3.out.alloc (.cells (insC A2 X) 37))
    have HI4 : Hid (IsIns (w3.alloc (.cells (insC A2 X) 37)).heap.size (w3.alloc (.cells (insC A2 X) 37)) A2 X) := Lib.hid ((HI3.out.later ((Below.refl _ _).alloc (Nat.le_refl _) _)).mono (by simp))
    obtain ⟨gx, hgx⟩ : ∃ g, w3.heap.size = g := ⟨_, rfl⟩
    obtain ⟨W4, hW4⟩ : ∃ W, w3.alloc (.cells (insC A2 X) 37) = W := ⟨_, rfl⟩
    rw [hW4] at HX4 HQ4 HI4
    rw [hgx] at HX4
    unfold insC at hW4 HX4
    rw [hgx]
    first | rw [hW4] | skip
    clear hW4 hgx HQ3 HI3 HQ2 HS2
    have HPL : Hid (∀ W, Below w.heap.size w W → IsPl W.heap.size W P p) := Lib.hid (fun W hb => (HP.out.later hb).mono hb.size)
    have HX5 := Lib.hid HX4.out.drew
    have HQ5 := Lib.hid HQ4.out.drew
    have HI5 : Hid (IsIns W4.drew.heap.size W4.drew A2 X) := Lib.hid (HI4.out.later (Below.refl _ _).drew)
    have HCS : Hid (∀ W, CBox w W gx (insC A2 X) 37 → CBox w W (w.heap.size + 1) (plC P p) 42 → W.cell? ⟨gx, 0, none⟩ = some (.int .i64 X.en) ∧ W.cell? ⟨gx, 1, none⟩ = some (.int .i64 X.tm) ∧ W.cell? ⟨gx, 2, none⟩ = some (.int .i64 X.tr) ∧ W.cell? ⟨gx, 3, none⟩ = some (.int .i64 X.bm) ∧ W.cell? ⟨gx, 4, none⟩ = some (.int .i64 X.br) ∧ W.cell? ⟨gx, 5, none⟩ = some (.slice A2.sa X.sats.length A2.sc) ∧ W.cell? ⟨gx, 6, none⟩ = some (.slice A2.ca X.cus.length A2.cc) ∧ W.cell? ⟨gx, 7, none⟩ = some (.slice A2.ka X.cost.length A2.kc) ∧ W.cell? ⟨gx, 8, none⟩ = some (.slice A2.ta X.time.length A2.tc) ∧ W.cell? ⟨w.heap.size + 1, 0, none⟩ = some (.slice P.ta p.tr.length P.tc) ∧ W.cell? ⟨w.heap.size + 1, 1, none⟩ = some (.slice P.ba p.bk.length P.bc)) := Lib.hid (fun W h1 h2 => by
      obtain ⟨d0, d1, d2, d3, d4, d5, d6, d7, d8⟩ := CBox.inst (A := A2) (x := X) h1
      obtain ⟨e0, e1⟩ := h2.cell2
      exact ⟨d0, d1, d2, d3, d4, d5, d6, d7, d8, e0, e1⟩)
    have HCH : Hid (∀ W, IsIns W.heap.size W A2 X → Below w.heap.size w W → Calls Try.prog 15 #[.agg (insC A2 X), .agg (plC P p)] W fun e w' => ∃ u, e = .returned (.int .i64 u) ∧ PErr X p u ∧ Below W.heap.size W w') := Lib.hid (fun W h1 h2 => pcheck_ok A2 X P p W h1 (HPL.out W h2) HM.out)
    have HCO : Hid (∀ W, IsIns W.heap.size W A2 X → Below w.heap.size w W → Calls Try.prog 13 #[.agg (insC A2 X), .agg (plC P p)] W fun e w' => ∃ u, e = .returned (.int .i64 u) ∧ PErr X p u ∧ Below W.heap.size W w') := Lib.hid (fun W h1 h2 => code_any A2 X P p W h1 (HPL.out W h2) HM.out)
    unfold insC plC at HCH HCO
    obtain ⟨c0, c1, c2, c3, c4, c5, c6, c7, c8, d0, d1⟩ := HCS.out _ HX5.out HQ5.out
    go_region_held3 (fun W => W.cell? ⟨gx, 0, none⟩ = some (.int .i64 X.en) ∧ W.cell? ⟨gx, 1, none⟩ = some (.int .i64 X.tm) ∧ W.cell? ⟨gx, 2, none⟩ = some (.int .i64 X.tr) ∧ W.cell? ⟨gx, 3, none⟩ = some (.int .i64 X.bm) ∧ W.cell? ⟨gx, 4, none⟩ = some (.int .i64 X.br) ∧ W.cell? ⟨gx, 5, none⟩ = some (.slice A2.sa X.sats.length A2.sc) ∧ W.cell? ⟨gx, 6, none⟩ = some (.slice A2.ca X.cus.length A2.cc) ∧ W.cell? ⟨gx, 7, none⟩ = some (.slice A2.ka X.cost.length A2.kc) ∧ W.cell? ⟨gx, 8, none⟩ = some (.slice A2.ta X.time.length A2.tc) ∧ W.cell? ⟨w.heap.size + 1, 0, none⟩ = some (.slice P.ta p.tr.length P.tc) ∧ W.cell? ⟨w.heap.size + 1, 1, none⟩ = some (.slice P.ba p.bk.length P.bc))
      (first | assumption | exact HCS.out _ HX5.out HQ5.out | exact HCS.out _ HX6.out HQ6.out | exact HCS.out _ HX7.out HQ7.out)
      (first
        | (go_at_call 15; refine (HCH.out _ HI5.out HX5.out.below).mono ?_; rintro e w6 ⟨u6, rfl, hp6, hb6⟩; have HX6 := Lib.hid (HX5.out.later hb6); have HQ6 := Lib.hid (HQ5.out.later hb6); have HI6 := Lib.hid ((HI5.out.later hb6).mono hb6.size); have HP6 := Lib.hid hp6; clear hb6 hp6)
        | (go_at_call 13; refine (HCO.out _ HI6.out HX6.out.below).mono ?_; rintro e w7 ⟨u7, rfl, hp7, hb7⟩; have HX7 := Lib.hid (HX6.out.later hb7); have HQ7 := Lib.hid (HQ6.out.later hb7); have e67 : u6 = u7 := HP6.out.unique hp7; subst e67; have hq7 : (u6 == u6) = true := (by simp); clear hb7 hp7))
    clear c0 c1 c2 c3 c4 c5 c6 c7 c8 d0 d1
    go_wp2_with fail
    go_ret
    exact ⟨rfl, HX7.out.below⟩
end Go.Proofs.Ytmnbpnjakbihdaa
