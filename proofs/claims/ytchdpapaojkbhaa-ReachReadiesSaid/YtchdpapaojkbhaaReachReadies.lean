/- The walk of the law on when bikes may leave. -/
import Derived.Test.YtchdpapaojkbhaaRAwake
import Derived.Test.YtchdpapaojkbhaaRMays
import Derived.Test.YtchdpapaojkbhaaRMo
import Derived.Test.YtchdpapaojkbhaaISetA
namespace Go.Proofs.Ytchdpapaojkbhaa
open Go.RowKit

set_option maxHeartbeats 8000000 in
set_option maxRecDepth 100000 in
theorem reachReadies_walk (H : ReachSpec) (A : SmA) (s : Sm) (w : World) (hs : IsSm w.heap.size w A s) :
    Calls Try.prog 3 #[.agg (smC A s)] w fun e w' => e = .returned (.bool true) ∧ Below w.heap.size w w' := by
  have HH := Lib.hid H
  have HS := Lib.hid (SBox.make w A s)
  have HSM := Lib.hid hs
  have HMK := Lib.hid (fun (W0 : World) (h : IsSm W0.heap.size W0 A s) => make_any A s W0 h)
  have hmay := may_make hs.okl
  obtain ⟨x, hx⟩ : ∃ x, makeI s = x := ⟨_, rfl⟩
  rw [hx] at HMK hmay
  have HMAY := Lib.hid hmay
  have hnc := hmay.nc
  have hns := hmay.ns
  clear hx hs hmay H
  unfold smC at *
  go_enter Try.func3, Try.ntmps3
  go_wp2_with (first
    | (go_at_call 8; refine (reach_awake HH.out _).mono ?_; rintro e w1 ⟨rfl, hb1⟩; have HS1 := Lib.hid (HS.out.later hb1); obtain ⟨j0, j1, j2, j3, j4, j5, j6, j7, j8, j9, j10⟩ := HS1.out.cells; clear hb1)
    | (go_at_call 9; refine (HMK.out _ (HS1.out.here HSM.out)).mono ?_; rintro e w2 ⟨⟨A2, rfl, C, D, VK, VT, hown⟩, hb2⟩; have HB2 := Lib.hid (HS1.out.below.trans (hb2.mono HS1.out.below.size)); have HI2 := Lib.hid hown.is_; have HX3 := Lib.hid (XBox.make (Below.refl _ w2) A2 x); have HI3 := Lib.hid (HX3.out.pipesHere HI2.out); have HB3 := Lib.hid (HB2.out.trans (((Below.refl w2.heap.size w2).alloc (Nat.le_refl _) (.cells (insC A2 x) 34)).mono HB2.out.size)); obtain ⟨i0, i1, i2, i3, i4, i5, i6, i7, i8⟩ := HX3.out.cells; clear hown hb2 j0 j1 j2 j3 j4 j5 j6 j7 j8 j9 j10))
  obtain ⟨w3, hw3⟩ : ∃ z, z = w2.alloc (.cells #[.int .i64 x.en, .int .i64 x.tm, .int .i64 x.tr, .int .i64 x.bm, .int .i64 x.br, .slice A2.sa x.sats.length A2.sc, .slice A2.ca x.cus.length A2.cc, .slice A2.ka x.cost.length A2.kc, .slice A2.ta x.time.length A2.tc] 34) := ⟨_, rfl⟩
  rw [← hw3] at HX3 HI3 HB3 ⊢
  obtain ⟨gx, hgx⟩ : ∃ b, b = w2.heap.size := ⟨_, rfl⟩
  rw [← hgx] at HX3 ⊢
  clear hw3 hgx i0 i1 i2 i3 i4 i5 i6 i7 i8
  have HX4 := Lib.hid (HX3.out.later (Below.refl _ _).drew)
  refine wp_region_held_drew (S := (fun Wz => Wz.heap[gx]? = some (.cells #[.int .i64 x.en, .int .i64 x.tm, .int .i64 x.tr, .int .i64 x.bm, .int .i64 x.br, .slice A2.sa x.sats.length A2.sc, .slice A2.ca x.cus.length A2.cc, .slice A2.ka x.cost.length A2.kc, .slice A2.ta x.time.length A2.tc] 34 (0, 0)))) (by kernel_rfl) HX4.out.blk (fun hHeld => ?_)
  have HI4 : Hid (IsIns w3.drew.heap.size w3.drew A2 x) := Lib.hid (HI3.out.later (Below.refl _ _).drew)
  have HB4 : Hid (Below w.heap.size w w3.drew) := Lib.hid HB3.out.drew
  refine wpAnyH_take (i := 0) (v := ?_) rfl (by kernel_rfl) (by kernel_rfl) (by kernel_rfl) (fun _ _ _ h => h) (Or.inl ⟨by rfl, ?_⟩) hHeld ?_
  rotate_left
  · intro Wz hWz; obtain ⟨k0, k1, k2, k3, k4, k5, k6, k7, k8, _⟩ := cells9 hWz; go_simp; (try with_reducible rfl)
  try simp only [Act.put, List.setIfInBounds_toArray, List.set_cons_zero, List.set_cons_succ, List.getElem_toArray, List.getElem_cons_zero]
  refine wpAnyH_take (i := 2) (v := ?_) rfl (by kernel_rfl) (by kernel_rfl) (by kernel_rfl) (fun _ _ _ h => h) (Or.inl ⟨by rfl, ?_⟩) hHeld ?_
  rotate_left
  · intro Wz hWz; obtain ⟨k0, k1, k2, k3, k4, k5, k6, k7, k8, _⟩ := cells9 hWz; go_simp; (try with_reducible rfl)
  try simp only [Act.put, List.setIfInBounds_toArray, List.set_cons_zero, List.set_cons_succ, List.getElem_toArray, List.getElem_cons_zero, List.getElem_cons_succ]
  refine wpAnyH_ready (rs := [1]) (by kernel_rfl) (by simp) ?_
  refine AllReadyH.cons rfl (fun K hK => ?_) AllReadyH.nil
  go_simp
  refine (HH.out.ready A2 x _ HI4.out HMAY.out).mono ?_
  rintro e w5 ⟨l, a, c, rfl, hn, hr, hb5⟩
  have HX5 := Lib.hid (HX4.out.later hb5)
  have HI5 := Lib.hid ((HI4.out.later hb5).mono hb5.size)
  have HB5 := Lib.hid (HB4.out.trans (hb5.mono HB4.out.size))
  have HN5 := Lib.hid hn
  have HR5 := Lib.hid hr
  clear hb5 hn hr
  refine hK.out _ _ ?_ (fun hHeld => ?_)
  · exact HX5.out.blk
  clear hK K
  try simp only [Act.put, List.setIfInBounds_toArray, List.set_cons_zero, List.set_cons_succ, List.getElem_toArray, List.getElem_cons_zero, List.getElem_cons_succ]
  refine wpAnyH_ready (rs := [3]) (by kernel_rfl) (by simp) ?_
  refine AllReadyH.cons rfl (fun K hK => ?_) AllReadyH.nil
  go_simp
  refine (readies_any A2 x _ HI5.out HMAY.out).mono ?_
  rintro e w6 ⟨m, a2, c2, rfl, hn, hr, hb6⟩
  have HX6 := Lib.hid (HX5.out.later hb6)
  have HB6 := Lib.hid (HB5.out.trans (hb6.mono HB5.out.size))
  have HN6 := Lib.hid hn
  have HN5b := Lib.hid (HN5.out.later hb6)
  have hlm := HR5.out.unique hr
  subst hlm
  have hll : l.length ≤ 1000000 := by rw [HR5.out.1]; omega
  clear hb6 hn hr
  refine hK.out _ _ ?_ (fun hHeld => ?_)
  · exact HX6.out.blk
  clear hK K
  try simp only [Act.put, List.setIfInBounds_toArray, List.set_cons_zero, List.set_cons_succ, List.getElem_toArray, List.getElem_cons_zero, List.getElem_cons_succ]
  refine wpAnyH_ready (rs := [4]) (by kernel_rfl) (by simp) ?_
  refine AllReadyH.cons rfl (fun K hK => ?_) AllReadyH.nil
  go_simp
  refine (eq64_any _ HN5b.out HN6.out hll).mono ?_
  rintro e w7 ⟨rfl, m7, rfl⟩
  have hbd : Below w6.heap.size w6 (w6.drewN m7) := ⟨rfl, rfl, rfl, Nat.le_refl _, fun _ _ => rfl⟩
  have HX7 := Lib.hid (HX6.out.later hbd)
  have HB7 := Lib.hid (HB6.out.trans (hbd.mono HB6.out.size))
  refine hK.out _ _ ?_ (fun hHeld => ?_)
  · exact HX7.out.blk
  clear hK K
  try simp only 
  refine wpAnyH_take (i := 5) (v := ?_) rfl (by kernel_rfl) (by kernel_rfl) (by kernel_rfl) (fun _ _ _ h => h) (Or.inl ⟨by rfl, ?_⟩) hHeld ?_
  rotate_left
  · intro Wz hWz; clear hWz; go_simp; (try with_reducible rfl)
  try simp only [Act.put, List.setIfInBounds_toArray, List.set_cons_zero, List.set_cons_succ, List.getElem_toArray, List.getElem_cons_zero, List.getElem_cons_succ]
  refine wpAnyH_done (by kernel_rfl) ?_ _
  clear hHeld
  go_wp2_with fail
  go_ret
  exact ⟨by simp, HB7.out⟩
end Go.Proofs.Ytchdpapaojkbhaa
