/- The walk of the law on who may be served. -/
import Derived.Test.YtchdpapaojkbhaaRAwake
import Derived.Test.YtchdpapaojkbhaaRMays
import Derived.Test.YtchdpapaojkbhaaRMo
import Derived.Test.YtchdpapaojkbhaaBtA
import Derived.Test.YtchdpapaojkbhaaISetA
namespace Go.Proofs.Ytchdpapaojkbhaa
open Go.RowKit
set_option maxHeartbeats 8000000 in
set_option maxRecDepth 100000 in
theorem reachMays_walk (H : ReachSpec) (A : SmA) (s : Sm) (w : World) (hs : IsSm w.heap.size w A s) :
    Calls Try.prog 5 #[.agg (smC A s)] w fun e w' => e = .returned (.bool true) ∧ Below w.heap.size w w' := by
  have HH := Lib.hid H
  have HS := Lib.hid (SBox.make w A s)
  have HSM := Lib.hid hs
  have HMK := Lib.hid (fun (W0 : World) (h : IsSm W0.heap.size W0 A s) => make_any A s W0 h)
  have hmay := may_make hs.okl
  obtain ⟨x, hx⟩ : ∃ x, makeI s = x := ⟨_, rfl⟩
  rw [hx] at HMK hmay
  have HMAY := Lib.hid hmay
  have hnc := hmay.nc
  have hns := hmay.ns
  clear hx hs hmay H
  unfold smC at *
  go_enter Try.func5, Try.ntmps5
  go_wp2_with (first
    | (go_at_call 8; refine (reach_awake HH.out _).mono ?_; rintro e w1 ⟨rfl, hb1⟩; have HS1 := Lib.hid (HS.out.later hb1); obtain ⟨j0, j1, j2, j3, j4, j5, j6, j7, j8, j9, j10⟩ := HS1.out.cells; clear hb1)
    | (go_at_call 9; refine (HMK.out _ (HS1.out.here HSM.out)).mono ?_; rintro e w2 ⟨⟨A2, rfl, C, D, VK, VT, hown⟩, hb2⟩; have HB2 := Lib.hid (HS1.out.below.trans (hb2.mono HS1.out.below.size)); have HI2 := Lib.hid hown.is_; have HX3 := Lib.hid (XBox.make (Below.refl _ w2) A2 x); have HI3 := Lib.hid (HX3.out.pipesHere HI2.out); have HB3 := Lib.hid (HB2.out.trans (((Below.refl w2.heap.size w2).alloc (Nat.le_refl _) (.cells (insC A2 x) 34)).mono HB2.out.size)); obtain ⟨i0, i1, i2, i3, i4, i5, i6, i7, i8⟩ := HX3.out.cells; clear hown hb2 j0 j1 j2 j3 j4 j5 j6 j7 j8 j9 j10)
    | (go_at_call 16; refine (HH.out.mays A2 x _ HI3.out HMAY.out).mono ?_; rintro e w5 ⟨zs, a5, c5, rfl, hset, hof, hb5⟩; have HX5 := Lib.hid (HX3.out.later hb5); have HI5 := Lib.hid ((HI3.out.later hb5).mono hb5.size); have HB5 := Lib.hid (HB3.out.trans (hb5.mono HB3.out.size)); have HS5 := Lib.hid hset; have HO5 := Lib.hid hof; have hzl := hof.1; clear hset hof hb5 i0 i1 i2 i3 i4 i5 i6 i7 i8; obtain ⟨i0, i1, i2, i3, i4, i5, i6, i7, i8⟩ := HX5.out.cells)
    | (go_at_call 17; refine (rmays_any A2 x _ HI5.out HMAY.out).mono ?_; rintro e w6 ⟨v6, p, rfl, ⟨B6, hbr⟩, hmo, hb6⟩; obtain ⟨a6, c6, rfl⟩ := hbr.shape; have HS6 := Lib.hid ((HS5.out.later hb6).mono hb6.size); have HB6 := Lib.hid (HB5.out.trans (hb6.mono HB5.out.size)); have HR6 := Lib.hid hbr; have HM6 := Lib.hid hmo; clear hbr hmo hb6 i0 i1 i2 i3 i4 i5 i6 i7 i8))
  have hz6 : ∃ b5 o5, a5 = some ⟨b5, o5, none⟩ ∧ b5 < w6.heap.size ∧ ∀ (j : Nat) (z : Nat), zs[j]? = some z → w6.cell? ⟨b5, o5 + j, none⟩ = some (.int .u64 (z : Int)) := by
    rcases HS6.out.2.2 with h | ⟨b, off, e, h1, h2⟩
    · omega
    · exact ⟨b, off, e, h1, h2⟩
  obtain ⟨b5, o5, rfl, hb5, hz5⟩ := hz6
  have HZ := Lib.hid hz5
  have HLT := Lib.hid (fun (z : Nat) (j : Nat) (h : zs[j]? = some z) => HS6.out.2.1 z (List.mem_of_getElem? h))
  have hr6 : ∃ b6 o6, a6 = some ⟨b6, o6, none⟩ ∧ b6 < w6.heap.size ∧ ∀ s, s < x.sats.length → ∃ ra ro rc, w6.cell? ⟨b6, o6 + s, none⟩ = some (.slice (some ⟨ra, ro, none⟩) x.cus.length rc) ∧ ra < w6.heap.size ∧ ∀ c, c < x.cus.length → w6.cell? ⟨ra, ro + c, none⟩ = some (.bool (p s c)) := by
    obtain ⟨b, e, hb, _⟩ := HR6.out.at_ (s := 0) (by omega)
    refine ⟨b, 0, e, hb, fun s hs => ?_⟩
    obtain ⟨b2, e2, _, ra, rc, h1, h2⟩ := HR6.out.at_ hs
    rw [e] at e2
    injection e2 with e2
    injection e2 with e2
    subst e2
    rcases h2 with h2 | ⟨g, off, e3, h3, h4⟩
    · omega
    · subst e3
      exact ⟨g, off, rc, by rw [Nat.zero_add]; exact h1, h3, h4⟩
  obtain ⟨b6, o6, rfl, hb6, hr6⟩ := hr6
  have HR := Lib.hid hr6
  have HTB : Hid (∀ s z c, s < x.sats.length → zs[s]? = some z → c < 64 → z.testBit c = (decide (c < x.cus.length) && p s c)) := Lib.hid (by
    intro s z c hs hz hc
    obtain ⟨_, q, h1, h2⟩ := HO5.out
    rw [h2 s z hz c hc]
    by_cases h : c < x.cus.length
    · rw [h1.unique HM6.out hs h]
    · simp [h])
  have LB5 := Lib.hid hb5
  have LB6 := Lib.hid hb6
  clear hb5 hb6 hz5 hr6
  go_wp2_with fail
  go_loopw [24] (fun iv wr => ∃ s : Nat, iv = .int .i64 (s : Int) ∧ s ≤ x.sats.length ∧ Hid (Below w6.heap.size w6 wr)) (fun iv _ => x.sats.length - (intOf iv).toNat)
  case atStart => exact ⟨0, rfl, Nat.zero_le _, Lib.hid (Below.refl _ _)⟩
  case round =>
    obtain ⟨s, rfl, hs, HB⟩ := hrel
    by_cases hst : s < x.sats.length
    · obtain ⟨ra, ro, rc, hr1, hr2, hr3⟩ := HR.out s hst
      obtain ⟨z, hz⟩ : ∃ z, zs[s]? = some z := ⟨_, List.getElem?_eq_getElem (by omega)⟩
      have d1 := (HB.out.cell (p := ⟨b6, o6 + s, none⟩) LB6.out).trans hr1
      have HC := Lib.hid hr3
      have LRA := Lib.hid hr2
      have HZS := Lib.hid hz
      have HTS := Lib.hid (fun c (h : c < 64) => HTB.out s z c hst hz h)
      have hzlt := HLT.out z s hz
      clear hr1 hr2 hr3 hz
      go_wp2_with fail
      clear d1
      go_loopw [29] (fun iv wr2 => ∃ c : Nat, iv = .int .i64 (c : Int) ∧ c ≤ 64 ∧ Hid (Below w6.heap.size w6 wr2)) (fun iv _ => 64 - (intOf iv).toNat)
      case atStart => exact ⟨0, rfl, Nat.zero_le _, HB⟩
      case round =>
        obtain ⟨c, rfl, hc, HB2⟩ := hrel
        by_cases hc64 : c < 64
        · have d2 := (HB2.out.cell (p := ⟨b5, o5 + s, none⟩) LB5.out).trans (HZ.out s z HZS.out)
          have hsz : s < zs.length := by omega
          have HHAS := Lib.hid (fun W => (has_any z hzlt (c : Int) W))
          have hhv : hasN z (c : Int) = (decide (c < x.cus.length) && p s c) := by
            rw [← HTS.out c hc64]
            unfold hasN
            rw [decide_eq_true (by omega), Bool.true_and, Int.toNat_natCast]
          rw [hhv] at HHAS
          by_cases hcn : c < x.cus.length
          · have d3 := (HB2.out.cell (p := ⟨ra, ro + c, none⟩) LRA.out).trans (HC.out c hcn)
            cases hpv : p s c with
            | true =>
              rw [hpv, decide_eq_true hcn, Bool.true_and] at HHAS
              rw [hpv] at d3
              go_wp2_with (go_at_call 18; refine (HHAS.out _).mono ?_; rintro e w7 ⟨rfl, rfl⟩)
              go_roundw
              case rel => exact ⟨c + 1, by go_num, by omega, HB2⟩
              case measure => simp [intOf]; omega
            | false =>
              rw [hpv, decide_eq_true hcn, Bool.true_and] at HHAS
              rw [hpv] at d3
              go_wp2_with (go_at_call 18; refine (HHAS.out _).mono ?_; rintro e w7 ⟨rfl, rfl⟩)
              go_roundw
              case rel => exact ⟨c + 1, by go_num, by omega, HB2⟩
              case measure => simp [intOf]; omega
          · rw [decide_eq_false hcn, Bool.false_and] at HHAS
            go_wp2_with (go_at_call 18; refine (HHAS.out _).mono ?_; rintro e w7 ⟨rfl, rfl⟩)
            go_roundw
            case rel => exact ⟨c + 1, by go_num, by omega, HB2⟩
            case measure => simp [intOf]; omega
        · obtain rfl : c = 64 := by omega
          go_wp2_with fail
          go_roundw
          case rel => exact ⟨s + 1, by go_num, by omega, HB2⟩
          case measure => simp [intOf]; omega
    · obtain rfl : s = x.sats.length := by omega
      go_wp2_with fail
      go_ret
      exact ⟨rfl, HB6.out.trans (HB.out.mono HB6.out.size)⟩
end Go.Proofs.Ytchdpapaojkbhaa
