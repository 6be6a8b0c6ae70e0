/- The walk of the law on ways from a satellite, and back. -/
import Derived.Test.YtchdpapaojkbhaaRAwake
import Derived.Test.YtchdpapaojkbhaaRMays
import Derived.Test.YtchdpapaojkbhaaRMo
import Derived.Test.YtchdpapaojkbhaaISetA
namespace Go.Proofs.Ytchdpapaojkbhaa
open Go.RowKit
set_option maxHeartbeats 8000000 in
set_option maxRecDepth 100000 in
theorem reachWays_walk (H : ReachSpec) (A : SmA) (s : Sm) (at_ : Int) (w : World) (hs : IsSm w.heap.size w A s) (ha : 0 ≤ at_ ∧ at_ ≤ 255) :
    Calls Try.prog 4 #[.agg (smC A s), .int .u8 at_] w fun e w' => e = .returned (.bool true) ∧ Below w.heap.size w w' := by
  have HH := Lib.hid H
  have HS := Lib.hid (SBox.make w A s)
  have HSM := Lib.hid hs
  have HMK := Lib.hid (fun (W0 : World) (h : IsSm W0.heap.size W0 A s) => make_any A s W0 h)
  have hmay := may_make hs.okl
  obtain ⟨x, hx⟩ : ∃ x, makeI s = x := ⟨_, rfl⟩
  rw [hx] at HMK hmay
  have HMAY := Lib.hid hmay
  have hnc := hmay.nc
  have hns := hmay.ns
  clear hx hs hmay H
  obtain ⟨k, ⟨hk1, hk2⟩, hk⟩ := mod_natR at_ x.sats.length (by omega) ha.1
  unfold smC at *
  go_enter Try.func4, Try.ntmps4
  go_wp2_with (first
    | (go_at_call 8; refine (reach_awake HH.out _).mono ?_; rintro e w1 ⟨rfl, hb1⟩; have HS1 := Lib.hid (HS.out.later hb1); obtain ⟨j0, j1, j2, j3, j4, j5, j6, j7, j8, j9, j10⟩ := HS1.out.cells; clear hb1)
    | (go_at_call 9; refine (HMK.out _ (HS1.out.here HSM.out)).mono ?_; rintro e w2 ⟨⟨A2, rfl, C, D, VK, VT, hown⟩, hb2⟩; have HB2 := Lib.hid (HS1.out.below.trans (hb2.mono HS1.out.below.size)); have HI2 := Lib.hid hown.is_; have HX3 := Lib.hid (XBox.make (Below.refl _ w2) A2 x); have HI3 := Lib.hid (HX3.out.pipesHere HI2.out); have HB3 := Lib.hid (HB2.out.trans (((Below.refl w2.heap.size w2).alloc (Nat.le_refl _) (.cells (insC A2 x) 34)).mono HB2.out.size)); obtain ⟨i0, i1, i2, i3, i4, i5, i6, i7, i8⟩ := HX3.out.cells; clear hown hb2 j0 j1 j2 j3 j4 j5 j6 j7 j8 j9 j10))
  refine (ways_any A2 x k hk _ HI3.out HMAY.out).mono ?_
  rintro e w5 ⟨l, m, a1, a2, k1, k2, rfl, hn1, hn2, ho, hb, hb5⟩
  have HX5 := Lib.hid (HX3.out.later hb5)
  have HI5 := Lib.hid ((HI3.out.later hb5).mono hb5.size)
  have HB5 := Lib.hid (HB3.out.trans (hb5.mono HB3.out.size))
  have HL5 := Lib.hid hn1
  have HM5 := Lib.hid hn2
  have HO5 := Lib.hid ho
  have HK5 := Lib.hid hb
  clear hn1 hn2 ho hb hb5 i0 i1 i2 i3 i4 i5 i6 i7 i8
  obtain ⟨i0, i1, i2, i3, i4, i5, i6, i7, i8⟩ := HX5.out.cells
  go_wp2_with (go_at_call 14; refine (HH.out.out A2 x k _ HI5.out HMAY.out hk).mono ?_; rintro e w6 ⟨l6, a6, c6, rfl, hn, hr, hb6⟩; have hlm := HO5.out.unique hr; subst hlm; have HX6 := Lib.hid (HX5.out.later hb6); have HI6 := Lib.hid ((HI5.out.later hb6).mono hb6.size); have HB6 := Lib.hid (HB5.out.trans (hb6.mono HB5.out.size)); have HN6 := Lib.hid hn; have HL6 := Lib.hid (HL5.out.later hb6); have HM6 := Lib.hid ((HM5.out.later hb6).mono hb6.size); have hll : l.length ≤ 1000000 := (by rw [HO5.out.1]; omega); clear hn hr hb6 i0 i1 i2 i3 i4 i5 i6 i7 i8)
  refine (eq64_same _ HN6.out HL6.out hll rfl).mono ?_
  rintro e w7 ⟨rfl, hb7⟩
  have HX7 := Lib.hid (HX6.out.later hb7)
  have HI7 := Lib.hid ((HI6.out.later hb7).mono hb7.size)
  have HB7 := Lib.hid (HB6.out.trans (hb7.mono HB6.out.size))
  have HM7 := Lib.hid ((HM6.out.later hb7).mono hb7.size)
  clear hb7
  obtain ⟨i0, i1, i2, i3, i4, i5, i6, i7, i8⟩ := HX7.out.cells
  go_wp2_with (go_at_call 15; refine (HH.out.back A2 x k _ HI7.out HMAY.out hk).mono ?_; rintro e w8 ⟨l8, a8, c8, rfl, hn, hr, hb8⟩; have hlm := HK5.out.unique hr; subst hlm; have HB8 := Lib.hid (HB7.out.trans (hb8.mono HB7.out.size)); have HN8 := Lib.hid hn; have HM8 := Lib.hid (HM7.out.later hb8); have hml : m.length ≤ 1000000 := (by rw [HK5.out.1]; omega); clear hn hr hb8 i0 i1 i2 i3 i4 i5 i6 i7 i8)
  refine (eq64_same _ HN8.out HM8.out hml rfl).mono ?_
  rintro e w9 ⟨rfl, hb9⟩
  have HB9 := Lib.hid (HB8.out.trans (hb9.mono HB8.out.size))
  clear hb9
  go_wp2_with fail
  go_ret
  exact ⟨rfl, HB9.out⟩
end Go.Proofs.Ytchdpapaojkbhaa
