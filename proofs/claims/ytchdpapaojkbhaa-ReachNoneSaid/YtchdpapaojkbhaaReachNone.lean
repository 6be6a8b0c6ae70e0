/- The walk of the law on what is told of what may not be. -/
import Derived.Test.YtchdpapaojkbhaaRAwake
import Derived.Test.YtchdpapaojkbhaaRMays
import Derived.Test.YtchdpapaojkbhaaRMo
import Derived.Test.YtchdpapaojkbhaaISetA
namespace Go.Proofs.Ytchdpapaojkbhaa
open Go.RowKit
/-- What lies in a box, by its cells. -/
theorem XBox.blk9 {w wr : World} {g : Nat} {A : InA} {x : Ins} (h : XBox w wr g A x) : wr.heap[g]? = some (.cells #[.int .i64 x.en, .int .i64 x.tm, .int .i64 x.tr, .int .i64 x.bm, .int .i64 x.br, .slice A.sa x.sats.length A.sc, .slice A.ca x.cus.length A.cc, .slice A.ka x.cost.length A.kc, .slice A.ta x.time.length A.tc] 34 (0, 0)) := h.blk
set_option maxHeartbeats 8000000 in
set_option maxRecDepth 100000 in
theorem reachNone_walk (H : ReachSpec) (A : InA) (x : Ins) (As : SmA) (s : Sm) (at_ : Int) (w : World) (hi : IsIns w.heap.size w A x) (hl : x.Len) (hs : IsSm w.heap.size w As s) (hat : Fits at_) :
    Calls Try.prog 6 #[.agg (insC A x), .agg (smC As s), .int .i64 at_] w fun e w' => e = .returned (.bool true) ∧ Below w.heap.size w w' := by
  have HH := Lib.hid H
  have HIX := Lib.hid hi
  have HXL := Lib.hid hl
  have hbn := (Below.refl w.heap.size w).alloc (Nat.le_refl _) (.cells (insC A x) 34)
  have HSM := Lib.hid ((hs.later hbn).mono hbn.size)
  have HS := Lib.hid (SBox.make (w.alloc (.cells (insC A x) 34)) As s)
  have HX0 := Lib.hid ((XBox.make (Below.refl _ w) A x).later HS.out.below)
  have HMK := Lib.hid (fun (W0 : World) (h : IsSm W0.heap.size W0 As s) => make_any As s W0 h)
  have hmay := may_make hs.okl
  obtain ⟨y, hy⟩ : ∃ y, makeI s = y := ⟨_, rfl⟩
  rw [hy] at HMK hmay
  have HMAY := Lib.hid hmay
  have hnc := hmay.nc
  have hns := hmay.ns
  have hyk : y.cost.length ≤ 9223372036854775807 ∧ y.time.length ≤ 9223372036854775807 := by
    have := nodes_61 hmay
    rw [hmay.lc, hmay.lt]; omega
  have HYK := Lib.hid hyk
  have hfl := hat
  have hw0 : IntKind.i64.wrap 0 = 0 := by rw [IntKind.wrap_i64]; omega
  unfold Fits at hfl
  have hz1 : (w.alloc (.cells (insC A x) 34)).heap.size = w.heap.size + 1 := by simp
  clear hy hs hmay H hi hl hbn hyk
  unfold smC insC at *
  have hcase : ∃ m : Int, Fits m ∧ (m < 0 ∨ (y.sats.length : Int) ≤ m) ∧ ((at_ < 0 ∧ m = at_) ∨ (0 ≤ at_ ∧ at_ < (y.sats.length : Int) ∧ IntKind.i64.wrap (at_ + (y.sats.length : Int)) = m) ∨ (0 ≤ at_ ∧ (y.sats.length : Int) ≤ at_ ∧ m = at_)) := by
    unfold Fits
    by_cases h0 : at_ < 0
    · exact ⟨at_, by omega, by omega, .inl ⟨h0, rfl⟩⟩
    · by_cases h1 : at_ < (y.sats.length : Int)
      · exact ⟨at_ + y.sats.length, by omega, by omega, .inr (.inl ⟨by omega, h1, by rw [IntKind.wrap_i64]; omega⟩)⟩
      · exact ⟨at_, by omega, by omega, .inr (.inr ⟨by omega, by omega, rfl⟩)⟩
  obtain ⟨m, hmf, hmo, hcase⟩ := hcase
  have HMF := Lib.hid hmf
  have HMO := Lib.hid hmo
  clear hat hmf hmo
  rcases hcase with ⟨ha, rfl⟩ | ⟨ha, hb, hw⟩ | ⟨ha, hb, rfl⟩
  · skip
    go_enter Try.func6, Try.ntmps6
    go_wp2_with (first
      | (go_at_call 8; refine (reach_awake HH.out _).mono ?_; rintro e w1 ⟨rfl, hb1⟩; have HS1 := Lib.hid (HS.out.later hb1); have HX1 := Lib.hid (HX0.out.later hb1); obtain ⟨j0, j1, j2, j3, j4, j5, j6, j7, j8, j9, j10⟩ := HS1.out.cells; rw [hz1] at j0 j1 j2 j3 j4 j5 j6 j7 j8 j9 j10; clear hb1)
      | (go_at_call 9; refine (HMK.out _ (HS1.out.here HSM.out)).mono ?_; rintro e w2 ⟨⟨A2, rfl, C, D, VK, VT, hown⟩, hb2⟩; have HI2 := Lib.hid hown.is_; have HY3 := Lib.hid (XBox.make (Below.refl _ w2) A2 y); have HI3 := Lib.hid (HY3.out.pipesHere HI2.out); have HX3 := Lib.hid ((HX1.out.later hb2).later ((Below.refl w2.heap.size w2).alloc (Nat.le_refl _) (.cells (insC A2 y) 34))); obtain ⟨i0, i1, i2, i3, i4, i5, i6, i7, i8⟩ := HY3.out.cells; clear hown hb2 j0 j1 j2 j3 j4 j5 j6 j7 j8 j9 j10))
    obtain ⟨w3, hw3⟩ : ∃ z, z = w2.alloc (.cells #[.int .i64 y.en, .int .i64 y.tm, .int .i64 y.tr, .int .i64 y.bm, .int .i64 y.br, .slice A2.sa y.sats.length A2.sc, .slice A2.ca y.cus.length A2.cc, .slice A2.ka y.cost.length A2.kc, .slice A2.ta y.time.length A2.tc] 34) := ⟨_, rfl⟩
    rw [← hw3] at HY3 HI3 HX3 ⊢
    obtain ⟨gy, hgy⟩ : ∃ b, b = w2.heap.size := ⟨_, rfl⟩
    rw [← hgy] at HY3 ⊢
    clear hw3 hgy i0 i1 i2 i3 i4 i5 i6 i7 i8
    have HY4 := Lib.hid (HY3.out.later (Below.refl _ _).drew)
    have HX4 := Lib.hid (HX3.out.later (Below.refl _ _).drew)
    have HI4 : Hid (IsIns w3.drew.heap.size w3.drew A2 y) := Lib.hid (HI3.out.later (Below.refl _ _).drew)
    refine wp_region_held_drew (S := (fun Wz => Wz.heap[gy]? = some (.cells #[.int .i64 y.en, .int .i64 y.tm, .int .i64 y.tr, .int .i64 y.bm, .int .i64 y.br, .slice A2.sa y.sats.length A2.sc, .slice A2.ca y.cus.length A2.cc, .slice A2.ka y.cost.length A2.kc, .slice A2.ta y.time.length A2.tc] 34 (0, 0)))) (by kernel_rfl) HY4.out.blk (fun hHeld => ?_)
    refine wpAnyH_take (i := 0) (v := ?_) rfl (by kernel_rfl) (by kernel_rfl) (by kernel_rfl) (fun _ _ _ h => h) (Or.inl ⟨by rfl, ?_⟩) hHeld ?_
    rotate_left
    · intro Wz hWz; obtain ⟨k0, k1, k2, k3, k4, k5, k6, k7, k8, _⟩ := cells9 hWz; go_simp; (try with_reducible rfl)
    try simp only [Act.put, List.setIfInBounds_toArray, List.set_cons_zero, List.set_cons_succ, List.getElem_toArray, List.getElem_cons_zero]
    refine wpAnyH_take (i := 1) (v := ?_) rfl (by kernel_rfl) (by kernel_rfl) (by kernel_rfl) (fun _ _ _ h => h) (Or.inl ⟨by rfl, ?_⟩) hHeld ?_
    rotate_left
    · intro Wz hWz; clear hWz; go_simp; (try with_reducible rfl)
    try simp only [Act.put, List.setIfInBounds_toArray, List.set_cons_zero, List.set_cons_succ, List.getElem_toArray, List.getElem_cons_zero, List.getElem_cons_succ]
    refine wpAnyH_take (i := 4) (v := ?_) rfl (by kernel_rfl) (by kernel_rfl) (by kernel_rfl) (fun _ _ _ h => h) (Or.inl ⟨by rfl, ?_⟩) hHeld ?_
    rotate_left
    · intro Wz hWz; obtain ⟨k0, k1, k2, k3, k4, k5, k6, k7, k8, _⟩ := cells9 hWz; go_simp; (try with_reducible rfl)
    try simp only [Act.put, List.setIfInBounds_toArray, List.set_cons_zero, List.set_cons_succ, List.getElem_toArray, List.getElem_cons_zero, List.getElem_cons_succ]
    refine wpAnyH_take (i := 5) (v := ?_) rfl (by kernel_rfl) (by kernel_rfl) (by kernel_rfl) (fun _ _ _ h => h) (Or.inl ⟨by rfl, ?_⟩) hHeld ?_
    rotate_left
    · intro Wz hWz; clear hWz; go_simp; (try with_reducible rfl)
    try simp only [Act.put, List.setIfInBounds_toArray, List.set_cons_zero, List.set_cons_succ, List.getElem_toArray, List.getElem_cons_zero, List.getElem_cons_succ]
    refine wpAnyH_ready (rs := [2]) (by kernel_rfl) (by simp) ?_
    refine AllReadyH.cons rfl (fun K hK => ?_) AllReadyH.nil
    go_simp
    refine (HH.out.outNo A2 y m _ HI4.out HYK.out.1 HYK.out.2 HMF.out (.inr HMO.out)).mono ?_
    rintro e w5 ⟨a5, c5, rfl, hb5⟩
    have HY5 := Lib.hid (HY4.out.later hb5)
    have HX5 := Lib.hid (HX4.out.later hb5)
    have HI5 := Lib.hid ((HI4.out.later hb5).mono hb5.size)
    clear hb5
    refine hK.out _ _ ?_ (fun hHeld => ?_)
    · exact HY5.out.blk
    clear hK K
    try simp only [Act.put, List.setIfInBounds_toArray, List.set_cons_zero, List.set_cons_succ, List.getElem_toArray, List.getElem_cons_zero, List.getElem_cons_succ]
    refine wpAnyH_take (i := 3) (v := ?_) rfl (by kernel_rfl) (by kernel_rfl) (by kernel_rfl) (fun _ _ _ h => h) (Or.inl ⟨by rfl, ?_⟩) hHeld ?_
    rotate_left
    · intro Wz hWz; clear hWz; go_simp; (try with_reducible rfl)
    try simp only [Act.put, List.setIfInBounds_toArray, List.set_cons_zero, List.set_cons_succ, List.getElem_toArray, List.getElem_cons_zero, List.getElem_cons_succ]
    refine wpAnyH_ready (rs := [6]) (by kernel_rfl) (by simp) ?_
    refine AllReadyH.cons rfl (fun K hK => ?_) AllReadyH.nil
    go_simp
    refine (HH.out.backNo A2 y m _ HI5.out HYK.out.1 HYK.out.2 HMF.out (.inr HMO.out)).mono ?_
    rintro e w6 ⟨a6, c6, rfl, hb6⟩
    have HY6 := Lib.hid (HY5.out.later hb6)
    have HX6 := Lib.hid (HX5.out.later hb6)
    clear hb6
    refine hK.out _ _ ?_ (fun hHeld => ?_)
    · exact HY6.out.blk
    clear hK K
    try simp only [Act.put, List.setIfInBounds_toArray, List.set_cons_zero, List.set_cons_succ, List.getElem_toArray, List.getElem_cons_zero, List.getElem_cons_succ]
    refine wpAnyH_take (i := 7) (v := ?_) rfl (by kernel_rfl) (by kernel_rfl) (by kernel_rfl) (fun _ _ _ h => h) (Or.inl ⟨by rfl, ?_⟩) hHeld ?_
    rotate_left
    · intro Wz hWz; clear hWz; go_simp; (try with_reducible rfl)
    try simp only [Act.put, List.setIfInBounds_toArray, List.set_cons_zero, List.set_cons_succ, List.getElem_toArray, List.getElem_cons_zero, List.getElem_cons_succ]
    refine wpAnyH_take (i := 8) (v := ?_) rfl (by kernel_rfl) (by kernel_rfl) (by kernel_rfl) (fun _ _ _ h => h) (Or.inl ⟨by rfl, ?_⟩) hHeld ?_
    rotate_left
    · intro Wz hWz; clear hWz; go_simp; (try with_reducible rfl)
    try simp only [Act.put, List.setIfInBounds_toArray, List.set_cons_zero, List.set_cons_succ, List.getElem_toArray, List.getElem_cons_zero, List.getElem_cons_succ]
    try simp only [hw0]
    refine wpAnyH_take (i := 9) (v := ?_) rfl (by kernel_rfl) (by kernel_rfl) (by kernel_rfl) (fun _ _ _ h => h) (Or.inl ⟨by rfl, ?_⟩) hHeld ?_
    rotate_left
    · intro Wz hWz; clear hWz; go_simp; (try with_reducible rfl)
    try simp only [Act.put, List.setIfInBounds_toArray, List.set_cons_zero, List.set_cons_succ, List.getElem_toArray, List.getElem_cons_zero, List.getElem_cons_succ]
    refine wpAnyH_done (by kernel_rfl) ?_ _
    clear hHeld
    obtain ⟨k0, k1, k2, k3, k4, k5, k6, k7, k8⟩ := HX6.out.cells
    by_cases h60 : 60 < x.cus.length
    · go_wp2_with fail
      go_ret
      exact ⟨rfl, HX6.out.below⟩
    · obtain ⟨er, her⟩ : ∃ er, instErr x = er := ⟨_, rfl⟩
      by_cases h0 : er = 0
      · subst h0
        go_wp2_with (go_at_call 19; refine (check_wide A x _ (HX6.out.pipesHere HIX.out) HXL.out.cost HXL.out.time).mono ?_; rw [her]; rintro e w7 ⟨rfl, hb7⟩; have HX7 := Lib.hid (HX6.out.later hb7); clear hb7)
        go_ret
        exact ⟨rfl, HX7.out.below⟩
      · have HER : Hid (instErr x ≠ 0) := Lib.hid (by rw [her]; exact h0)
        have hz0 : (er == 0) = false := by simpa using h0
        have hdd : (decide (60 < (x.cus.length : Int)) || er == 0) = false := by rw [hz0, Bool.or_false]; exact decide_eq_false (by omega)
        go_wp2_with (go_at_call 19; refine (check_wide A x _ (HX6.out.pipesHere HIX.out) HXL.out.cost HXL.out.time).mono ?_; rw [her]; rintro e w7 ⟨rfl, hb7⟩; have HX7 := Lib.hid (HX6.out.later hb7); clear hb7)
        clear her k0 k1 k2 k3 k4 k5 k6 k7 k8
        have HX8 := Lib.hid (HX7.out.later (Below.refl _ _).drew)
        refine wp_region_held_drew (S := (fun Wz => Wz.heap[w.heap.size]? = some (.cells #[.int .i64 x.en, .int .i64 x.tm, .int .i64 x.tr, .int .i64 x.bm, .int .i64 x.br, .slice A.sa x.sats.length A.sc, .slice A.ca x.cus.length A.cc, .slice A.ka x.cost.length A.kc, .slice A.ta x.time.length A.tc] 34 (0, 0)))) (by kernel_rfl) HX8.out.blk (fun hHeld => ?_)
        refine wpAnyH_take (i := 0) (v := ?_) rfl (by kernel_rfl) (by kernel_rfl) (by kernel_rfl) (fun _ _ _ h => h) (Or.inl ⟨by rfl, ?_⟩) hHeld ?_
        rotate_left
        · intro Wz hWz; obtain ⟨k0, k1, k2, k3, k4, k5, k6, k7, k8, _⟩ := cells9 hWz; go_simp; (try with_reducible rfl)
        try simp only [Act.put, List.setIfInBounds_toArray, List.set_cons_zero, List.set_cons_succ, List.getElem_toArray, List.getElem_cons_zero]
        refine wpAnyH_take (i := 3) (v := ?_) rfl (by kernel_rfl) (by kernel_rfl) (by kernel_rfl) (fun _ _ _ h => h) (Or.inl ⟨by rfl, ?_⟩) hHeld ?_
        rotate_left
        · intro Wz hWz; obtain ⟨k0, k1, k2, k3, k4, k5, k6, k7, k8, _⟩ := cells9 hWz; go_simp; (try with_reducible rfl)
        try simp only [Act.put, List.setIfInBounds_toArray, List.set_cons_zero, List.set_cons_succ, List.getElem_toArray, List.getElem_cons_zero, List.getElem_cons_succ]
        refine wpAnyH_take (i := 8) (v := ?_) rfl (by kernel_rfl) (by kernel_rfl) (by kernel_rfl) (fun _ _ _ h => h) (Or.inl ⟨by rfl, ?_⟩) hHeld ?_
        rotate_left
        · intro Wz hWz; obtain ⟨k0, k1, k2, k3, k4, k5, k6, k7, k8, _⟩ := cells9 hWz; go_simp; (try with_reducible rfl)
        try simp only [Act.put, List.setIfInBounds_toArray, List.set_cons_zero, List.set_cons_succ, List.getElem_toArray, List.getElem_cons_zero, List.getElem_cons_succ]
        refine wpAnyH_take (i := 13) (v := ?_) rfl (by kernel_rfl) (by kernel_rfl) (by kernel_rfl) (fun _ _ _ h => h) (Or.inl ⟨by rfl, ?_⟩) hHeld ?_
        rotate_left
        · intro Wz hWz; obtain ⟨k0, k1, k2, k3, k4, k5, k6, k7, k8, _⟩ := cells9 hWz; go_simp; (try with_reducible rfl)
        try simp only [Act.put, List.setIfInBounds_toArray, List.set_cons_zero, List.set_cons_succ, List.getElem_toArray, List.getElem_cons_zero, List.getElem_cons_succ]
        refine wpAnyH_take (i := 4) (v := ?_) rfl (by kernel_rfl) (by kernel_rfl) (by kernel_rfl) (fun _ _ _ h => h) (Or.inl ⟨by rfl, ?_⟩) hHeld ?_
        rotate_left
        · intro Wz hWz; clear hWz; go_simp; (try with_reducible rfl)
        try simp only [Act.put, List.setIfInBounds_toArray, List.set_cons_zero, List.set_cons_succ, List.getElem_toArray, List.getElem_cons_zero, List.getElem_cons_succ]
        refine wpAnyH_take (i := 9) (v := ?_) rfl (by kernel_rfl) (by kernel_rfl) (by kernel_rfl) (fun _ _ _ h => h) (Or.inl ⟨by rfl, ?_⟩) hHeld ?_
        rotate_left
        · intro Wz hWz; clear hWz; go_simp; (try with_reducible rfl)
        try simp only [Act.put, List.setIfInBounds_toArray, List.set_cons_zero, List.set_cons_succ, List.getElem_toArray, List.getElem_cons_zero, List.getElem_cons_succ]
        refine wpAnyH_ready (rs := [1]) (by kernel_rfl) (by simp) ?_
        refine AllReadyH.cons rfl (fun K hK => ?_) AllReadyH.nil
        go_simp
        refine (HH.out.readyNo A x _ (HX8.out.pipesHere HIX.out) HXL.out.cost HXL.out.time HER.out).mono ?_
        rintro e w9 ⟨a9, c9, rfl, hb9⟩
        have HX9 := Lib.hid (HX8.out.later hb9)
        clear hb9
        refine hK.out _ _ ?_ (fun hHeld => ?_)
        · exact HX9.out.blk
        clear hK K
        try simp only [Act.put, List.setIfInBounds_toArray, List.set_cons_zero, List.set_cons_succ, List.getElem_toArray, List.getElem_cons_zero, List.getElem_cons_succ]
        refine wpAnyH_take (i := 2) (v := ?_) rfl (by kernel_rfl) (by kernel_rfl) (by kernel_rfl) (fun _ _ _ h => h) (Or.inl ⟨by rfl, ?_⟩) hHeld ?_
        rotate_left
        · intro Wz hWz; clear hWz; go_simp; (try with_reducible rfl)
        try simp only [Act.put, List.setIfInBounds_toArray, List.set_cons_zero, List.set_cons_succ, List.getElem_toArray, List.getElem_cons_zero, List.getElem_cons_succ]
        refine wpAnyH_ready (rs := [5]) (by kernel_rfl) (by simp) ?_
        refine AllReadyH.cons rfl (fun K hK => ?_) AllReadyH.nil
        go_simp
        refine (HH.out.outNo A x m _ (HX9.out.pipesHere HIX.out) HXL.out.cost HXL.out.time HMF.out (.inl HER.out)).mono ?_
        rintro e w10 ⟨a10, c10, rfl, hb10⟩
        have HX10 := Lib.hid (HX9.out.later hb10)
        clear hb10
        refine hK.out _ _ ?_ (fun hHeld => ?_)
        · exact HX10.out.blk
        clear hK K
        try simp only [Act.put, List.setIfInBounds_toArray, List.set_cons_zero, List.set_cons_succ, List.getElem_toArray, List.getElem_cons_zero, List.getElem_cons_succ]
        refine wpAnyH_take (i := 6) (v := ?_) rfl (by kernel_rfl) (by kernel_rfl) (by kernel_rfl) (fun _ _ _ h => h) (Or.inl ⟨by rfl, ?_⟩) hHeld ?_
        rotate_left
        · intro Wz hWz; clear hWz; go_simp; (try with_reducible rfl)
        try simp only [Act.put, List.setIfInBounds_toArray, List.set_cons_zero, List.set_cons_succ, List.getElem_toArray, List.getElem_cons_zero, List.getElem_cons_succ]
        refine wpAnyH_take (i := 7) (v := ?_) rfl (by kernel_rfl) (by kernel_rfl) (by kernel_rfl) (fun _ _ _ h => h) (Or.inl ⟨by rfl, ?_⟩) hHeld ?_
        rotate_left
        · intro Wz hWz; clear hWz; go_simp; (try with_reducible rfl)
        try simp only [Act.put, List.setIfInBounds_toArray, List.set_cons_zero, List.set_cons_succ, List.getElem_toArray, List.getElem_cons_zero, List.getElem_cons_succ]
        try simp only [hw0]
        refine wpAnyH_ready (rs := [10]) (by kernel_rfl) (by simp) ?_
        refine AllReadyH.cons rfl (fun K hK => ?_) AllReadyH.nil
        go_simp
        refine (HH.out.backNo A x m _ (HX10.out.pipesHere HIX.out) HXL.out.cost HXL.out.time HMF.out (.inl HER.out)).mono ?_
        rintro e w11 ⟨a11, c11, rfl, hb11⟩
        have HX11 := Lib.hid (HX10.out.later hb11)
        clear hb11
        refine hK.out _ _ ?_ (fun hHeld => ?_)
        · exact HX11.out.blk
        clear hK K
        try simp only [Act.put, List.setIfInBounds_toArray, List.set_cons_zero, List.set_cons_succ, List.getElem_toArray, List.getElem_cons_zero, List.getElem_cons_succ]
        refine wpAnyH_take (i := 11) (v := ?_) rfl (by kernel_rfl) (by kernel_rfl) (by kernel_rfl) (fun _ _ _ h => h) (Or.inl ⟨by rfl, ?_⟩) hHeld ?_
        rotate_left
        · intro Wz hWz; clear hWz; go_simp; (try with_reducible rfl)
        try simp only [Act.put, List.setIfInBounds_toArray, List.set_cons_zero, List.set_cons_succ, List.getElem_toArray, List.getElem_cons_zero, List.getElem_cons_succ]
        refine wpAnyH_take (i := 12) (v := ?_) rfl (by kernel_rfl) (by kernel_rfl) (by kernel_rfl) (fun _ _ _ h => h) (Or.inl ⟨by rfl, ?_⟩) hHeld ?_
        rotate_left
        · intro Wz hWz; clear hWz; go_simp; (try with_reducible rfl)
        try simp only [Act.put, List.setIfInBounds_toArray, List.set_cons_zero, List.set_cons_succ, List.getElem_toArray, List.getElem_cons_zero, List.getElem_cons_succ]
        try simp only [hw0]
        refine wpAnyH_ready (rs := [14]) (by kernel_rfl) (by simp) ?_
        refine AllReadyH.cons rfl (fun K hK => ?_) AllReadyH.nil
        go_simp
        refine (HH.out.maysNo A x _ (HX11.out.pipesHere HIX.out) HXL.out.cost HXL.out.time HER.out).mono ?_
        rintro e w12 ⟨a12, c12, rfl, hb12⟩
        have HX12 := Lib.hid (HX11.out.later hb12)
        clear hb12
        refine hK.out _ _ ?_ (fun hHeld => ?_)
        · exact HX12.out.blk
        clear hK K
        try simp only [Act.put, List.setIfInBounds_toArray, List.set_cons_zero, List.set_cons_succ, List.getElem_toArray, List.getElem_cons_zero, List.getElem_cons_succ]
        refine wpAnyH_take (i := 15) (v := ?_) rfl (by kernel_rfl) (by kernel_rfl) (by kernel_rfl) (fun _ _ _ h => h) (Or.inl ⟨by rfl, ?_⟩) hHeld ?_
        rotate_left
        · intro Wz hWz; clear hWz; go_simp; (try with_reducible rfl)
        try simp only [Act.put, List.setIfInBounds_toArray, List.set_cons_zero, List.set_cons_succ, List.getElem_toArray, List.getElem_cons_zero, List.getElem_cons_succ]
        refine wpAnyH_take (i := 16) (v := ?_) rfl (by kernel_rfl) (by kernel_rfl) (by kernel_rfl) (fun _ _ _ h => h) (Or.inl ⟨by rfl, ?_⟩) hHeld ?_
        rotate_left
        · intro Wz hWz; clear hWz; go_simp; (try with_reducible rfl)
        try simp only [Act.put, List.setIfInBounds_toArray, List.set_cons_zero, List.set_cons_succ, List.getElem_toArray, List.getElem_cons_zero, List.getElem_cons_succ]
        try simp only [hw0]
        refine wpAnyH_take (i := 17) (v := ?_) rfl (by kernel_rfl) (by kernel_rfl) (by kernel_rfl) (fun _ _ _ h => h) (Or.inl ⟨by rfl, ?_⟩) hHeld ?_
        rotate_left
        · intro Wz hWz; clear hWz; go_simp; (try with_reducible rfl)
        try simp only [Act.put, List.setIfInBounds_toArray, List.set_cons_zero, List.set_cons_succ, List.getElem_toArray, List.getElem_cons_zero, List.getElem_cons_succ]
        refine wpAnyH_take (i := 18) (v := ?_) rfl (by kernel_rfl) (by kernel_rfl) (by kernel_rfl) (fun _ _ _ h => h) (Or.inl ⟨by rfl, ?_⟩) hHeld ?_
        rotate_left
        · intro Wz hWz; clear hWz; go_simp; (try with_reducible rfl)
        try simp only [Act.put, List.setIfInBounds_toArray, List.set_cons_zero, List.set_cons_succ, List.getElem_toArray, List.getElem_cons_zero, List.getElem_cons_succ]
        refine wpAnyH_done (by kernel_rfl) ?_ _
        clear hHeld
        go_wp2_with fail
        go_ret
        exact ⟨by simp, HX12.out.below⟩
  · skip
    go_enter Try.func6, Try.ntmps6
    go_wp2_with (first
      | (go_at_call 8; refine (reach_awake HH.out _).mono ?_; rintro e w1 ⟨rfl, hb1⟩; have HS1 := Lib.hid (HS.out.later hb1); have HX1 := Lib.hid (HX0.out.later hb1); obtain ⟨j0, j1, j2, j3, j4, j5, j6, j7, j8, j9, j10⟩ := HS1.out.cells; rw [hz1] at j0 j1 j2 j3 j4 j5 j6 j7 j8 j9 j10; clear hb1)
      | (go_at_call 9; refine (HMK.out _ (HS1.out.here HSM.out)).mono ?_; rintro e w2 ⟨⟨A2, rfl, C, D, VK, VT, hown⟩, hb2⟩; have HI2 := Lib.hid hown.is_; have HY3 := Lib.hid (XBox.make (Below.refl _ w2) A2 y); have HI3 := Lib.hid (HY3.out.pipesHere HI2.out); have HX3 := Lib.hid ((HX1.out.later hb2).later ((Below.refl w2.heap.size w2).alloc (Nat.le_refl _) (.cells (insC A2 y) 34))); obtain ⟨i0, i1, i2, i3, i4, i5, i6, i7, i8⟩ := HY3.out.cells; clear hown hb2 j0 j1 j2 j3 j4 j5 j6 j7 j8 j9 j10))
    obtain ⟨w3, hw3⟩ : ∃ z, z = w2.alloc (.cells #[.int .i64 y.en, .int .i64 y.tm, .int .i64 y.tr, .int .i64 y.bm, .int .i64 y.br, .slice A2.sa y.sats.length A2.sc, .slice A2.ca y.cus.length A2.cc, .slice A2.ka y.cost.length A2.kc, .slice A2.ta y.time.length A2.tc] 34) := ⟨_, rfl⟩
    rw [← hw3] at HY3 HI3 HX3 ⊢
    obtain ⟨gy, hgy⟩ : ∃ b, b = w2.heap.size := ⟨_, rfl⟩
    rw [← hgy] at HY3 ⊢
    clear hw3 hgy i0 i1 i2 i3 i4 i5 i6 i7 i8
    have HY4 := Lib.hid (HY3.out.later (Below.refl _ _).drew)
    have HX4 := Lib.hid (HX3.out.later (Below.refl _ _).drew)
    have HI4 : Hid (IsIns w3.drew.heap.size w3.drew A2 y) := Lib.hid (HI3.out.later (Below.refl _ _).drew)
    refine wp_region_held_drew (S := (fun Wz => Wz.heap[gy]? = some (.cells #[.int .i64 y.en, .int .i64 y.tm, .int .i64 y.tr, .int .i64 y.bm, .int .i64 y.br, .slice A2.sa y.sats.length A2.sc, .slice A2.ca y.cus.length A2.cc, .slice A2.ka y.cost.length A2.kc, .slice A2.ta y.time.length A2.tc] 34 (0, 0)))) (by kernel_rfl) HY4.out.blk (fun hHeld => ?_)
    refine wpAnyH_take (i := 0) (v := ?_) rfl (by kernel_rfl) (by kernel_rfl) (by kernel_rfl) (fun _ _ _ h => h) (Or.inl ⟨by rfl, ?_⟩) hHeld ?_
    rotate_left
    · intro Wz hWz; obtain ⟨k0, k1, k2, k3, k4, k5, k6, k7, k8, _⟩ := cells9 hWz; go_simp; (try with_reducible rfl)
    try simp only [Act.put, List.setIfInBounds_toArray, List.set_cons_zero, List.set_cons_succ, List.getElem_toArray, List.getElem_cons_zero]
    refine wpAnyH_take (i := 1) (v := ?_) rfl (by kernel_rfl) (by kernel_rfl) (by kernel_rfl) (fun _ _ _ h => h) (Or.inl ⟨by rfl, ?_⟩) hHeld ?_
    rotate_left
    · intro Wz hWz; clear hWz; go_simp; (try with_reducible rfl)
    try simp only [Act.put, List.setIfInBounds_toArray, List.set_cons_zero, List.set_cons_succ, List.getElem_toArray, List.getElem_cons_zero, List.getElem_cons_succ]
    refine wpAnyH_take (i := 4) (v := ?_) rfl (by kernel_rfl) (by kernel_rfl) (by kernel_rfl) (fun _ _ _ h => h) (Or.inl ⟨by rfl, ?_⟩) hHeld ?_
    rotate_left
    · intro Wz hWz; obtain ⟨k0, k1, k2, k3, k4, k5, k6, k7, k8, _⟩ := cells9 hWz; go_simp; (try with_reducible rfl)
    try simp only [Act.put, List.setIfInBounds_toArray, List.set_cons_zero, List.set_cons_succ, List.getElem_toArray, List.getElem_cons_zero, List.getElem_cons_succ]
    refine wpAnyH_take (i := 5) (v := ?_) rfl (by kernel_rfl) (by kernel_rfl) (by kernel_rfl) (fun _ _ _ h => h) (Or.inl ⟨by rfl, ?_⟩) hHeld ?_
    rotate_left
    · intro Wz hWz; clear hWz; go_simp; (try with_reducible rfl)
    try simp only [Act.put, List.setIfInBounds_toArray, List.set_cons_zero, List.set_cons_succ, List.getElem_toArray, List.getElem_cons_zero, List.getElem_cons_succ]
    refine wpAnyH_ready (rs := [2]) (by kernel_rfl) (by simp) ?_
    refine AllReadyH.cons rfl (fun K hK => ?_) AllReadyH.nil
    go_simp
    refine (HH.out.outNo A2 y m _ HI4.out HYK.out.1 HYK.out.2 HMF.out (.inr HMO.out)).mono ?_
    rintro e w5 ⟨a5, c5, rfl, hb5⟩
    have HY5 := Lib.hid (HY4.out.later hb5)
    have HX5 := Lib.hid (HX4.out.later hb5)
    have HI5 := Lib.hid ((HI4.out.later hb5).mono hb5.size)
    clear hb5
    refine hK.out _ _ ?_ (fun hHeld => ?_)
    · exact HY5.out.blk
    clear hK K
    try simp only [Act.put, List.setIfInBounds_toArray, List.set_cons_zero, List.set_cons_succ, List.getElem_toArray, List.getElem_cons_zero, List.getElem_cons_succ]
    refine wpAnyH_take (i := 3) (v := ?_) rfl (by kernel_rfl) (by kernel_rfl) (by kernel_rfl) (fun _ _ _ h => h) (Or.inl ⟨by rfl, ?_⟩) hHeld ?_
    rotate_left
    · intro Wz hWz; clear hWz; go_simp; (try with_reducible rfl)
    try simp only [Act.put, List.setIfInBounds_toArray, List.set_cons_zero, List.set_cons_succ, List.getElem_toArray, List.getElem_cons_zero, List.getElem_cons_succ]
    refine wpAnyH_ready (rs := [6]) (by kernel_rfl) (by simp) ?_
    refine AllReadyH.cons rfl (fun K hK => ?_) AllReadyH.nil
    go_simp
    refine (HH.out.backNo A2 y m _ HI5.out HYK.out.1 HYK.out.2 HMF.out (.inr HMO.out)).mono ?_
    rintro e w6 ⟨a6, c6, rfl, hb6⟩
    have HY6 := Lib.hid (HY5.out.later hb6)
    have HX6 := Lib.hid (HX5.out.later hb6)
    clear hb6
    refine hK.out _ _ ?_ (fun hHeld => ?_)
    · exact HY6.out.blk
    clear hK K
    try simp only [Act.put, List.setIfInBounds_toArray, List.set_cons_zero, List.set_cons_succ, List.getElem_toArray, List.getElem_cons_zero, List.getElem_cons_succ]
    refine wpAnyH_take (i := 7) (v := ?_) rfl (by kernel_rfl) (by kernel_rfl) (by kernel_rfl) (fun _ _ _ h => h) (Or.inl ⟨by rfl, ?_⟩) hHeld ?_
    rotate_left
    · intro Wz hWz; clear hWz; go_simp; (try with_reducible rfl)
    try simp only [Act.put, List.setIfInBounds_toArray, List.set_cons_zero, List.set_cons_succ, List.getElem_toArray, List.getElem_cons_zero, List.getElem_cons_succ]
    refine wpAnyH_take (i := 8) (v := ?_) rfl (by kernel_rfl) (by kernel_rfl) (by kernel_rfl) (fun _ _ _ h => h) (Or.inl ⟨by rfl, ?_⟩) hHeld ?_
    rotate_left
    · intro Wz hWz; clear hWz; go_simp; (try with_reducible rfl)
    try simp only [Act.put, List.setIfInBounds_toArray, List.set_cons_zero, List.set_cons_succ, List.getElem_toArray, List.getElem_cons_zero, List.getElem_cons_succ]
    try simp only [hw0]
    refine wpAnyH_take (i := 9) (v := ?_) rfl (by kernel_rfl) (by kernel_rfl) (by kernel_rfl) (fun _ _ _ h => h) (Or.inl ⟨by rfl, ?_⟩) hHeld ?_
    rotate_left
    · intro Wz hWz; clear hWz; go_simp; (try with_reducible rfl)
    try simp only [Act.put, List.setIfInBounds_toArray, List.set_cons_zero, List.set_cons_succ, List.getElem_toArray, List.getElem_cons_zero, List.getElem_cons_succ]
    refine wpAnyH_done (by kernel_rfl) ?_ _
    clear hHeld
    obtain ⟨k0, k1, k2, k3, k4, k5, k6, k7, k8⟩ := HX6.out.cells
    by_cases h60 : 60 < x.cus.length
    · go_wp2_with fail
      go_ret
      exact ⟨rfl, HX6.out.below⟩
    · obtain ⟨er, her⟩ : ∃ er, instErr x = er := ⟨_, rfl⟩
      by_cases h0 : er = 0
      · subst h0
        go_wp2_with (go_at_call 19; refine (check_wide A x _ (HX6.out.pipesHere HIX.out) HXL.out.cost HXL.out.time).mono ?_; rw [her]; rintro e w7 ⟨rfl, hb7⟩; have HX7 := Lib.hid (HX6.out.later hb7); clear hb7)
        go_ret
        exact ⟨rfl, HX7.out.below⟩
      · have HER : Hid (instErr x ≠ 0) := Lib.hid (by rw [her]; exact h0)
        have hz0 : (er == 0) = false := by simpa using h0
        have hdd : (decide (60 < (x.cus.length : Int)) || er == 0) = false := by rw [hz0, Bool.or_false]; exact decide_eq_false (by omega)
        go_wp2_with (go_at_call 19; refine (check_wide A x _ (HX6.out.pipesHere HIX.out) HXL.out.cost HXL.out.time).mono ?_; rw [her]; rintro e w7 ⟨rfl, hb7⟩; have HX7 := Lib.hid (HX6.out.later hb7); clear hb7)
        clear her k0 k1 k2 k3 k4 k5 k6 k7 k8
        have HX8 := Lib.hid (HX7.out.later (Below.refl _ _).drew)
        refine wp_region_held_drew (S := (fun Wz => Wz.heap[w.heap.size]? = some (.cells #[.int .i64 x.en, .int .i64 x.tm, .int .i64 x.tr, .int .i64 x.bm, .int .i64 x.br, .slice A.sa x.sats.length A.sc, .slice A.ca x.cus.length A.cc, .slice A.ka x.cost.length A.kc, .slice A.ta x.time.length A.tc] 34 (0, 0)))) (by kernel_rfl) HX8.out.blk (fun hHeld => ?_)
        refine wpAnyH_take (i := 0) (v := ?_) rfl (by kernel_rfl) (by kernel_rfl) (by kernel_rfl) (fun _ _ _ h => h) (Or.inl ⟨by rfl, ?_⟩) hHeld ?_
        rotate_left
        · intro Wz hWz; obtain ⟨k0, k1, k2, k3, k4, k5, k6, k7, k8, _⟩ := cells9 hWz; go_simp; (try with_reducible rfl)
        try simp only [Act.put, List.setIfInBounds_toArray, List.set_cons_zero, List.set_cons_succ, List.getElem_toArray, List.getElem_cons_zero]
        refine wpAnyH_take (i := 3) (v := ?_) rfl (by kernel_rfl) (by kernel_rfl) (by kernel_rfl) (fun _ _ _ h => h) (Or.inl ⟨by rfl, ?_⟩) hHeld ?_
        rotate_left
        · intro Wz hWz; obtain ⟨k0, k1, k2, k3, k4, k5, k6, k7, k8, _⟩ := cells9 hWz; go_simp; (try with_reducible rfl)
        try simp only [Act.put, List.setIfInBounds_toArray, List.set_cons_zero, List.set_cons_succ, List.getElem_toArray, List.getElem_cons_zero, List.getElem_cons_succ]
        refine wpAnyH_take (i := 8) (v := ?_) rfl (by kernel_rfl) (by kernel_rfl) (by kernel_rfl) (fun _ _ _ h => h) (Or.inl ⟨by rfl, ?_⟩) hHeld ?_
        rotate_left
        · intro Wz hWz; obtain ⟨k0, k1, k2, k3, k4, k5, k6, k7, k8, _⟩ := cells9 hWz; go_simp; (try with_reducible rfl)
        try simp only [Act.put, List.setIfInBounds_toArray, List.set_cons_zero, List.set_cons_succ, List.getElem_toArray, List.getElem_cons_zero, List.getElem_cons_succ]
        refine wpAnyH_take (i := 13) (v := ?_) rfl (by kernel_rfl) (by kernel_rfl) (by kernel_rfl) (fun _ _ _ h => h) (Or.inl ⟨by rfl, ?_⟩) hHeld ?_
        rotate_left
        · intro Wz hWz; obtain ⟨k0, k1, k2, k3, k4, k5, k6, k7, k8, _⟩ := cells9 hWz; go_simp; (try with_reducible rfl)
        try simp only [Act.put, List.setIfInBounds_toArray, List.set_cons_zero, List.set_cons_succ, List.getElem_toArray, List.getElem_cons_zero, List.getElem_cons_succ]
        refine wpAnyH_take (i := 4) (v := ?_) rfl (by kernel_rfl) (by kernel_rfl) (by kernel_rfl) (fun _ _ _ h => h) (Or.inl ⟨by rfl, ?_⟩) hHeld ?_
        rotate_left
        · intro Wz hWz; clear hWz; go_simp; (try with_reducible rfl)
        try simp only [Act.put, List.setIfInBounds_toArray, List.set_cons_zero, List.set_cons_succ, List.getElem_toArray, List.getElem_cons_zero, List.getElem_cons_succ]
        refine wpAnyH_take (i := 9) (v := ?_) rfl (by kernel_rfl) (by kernel_rfl) (by kernel_rfl) (fun _ _ _ h => h) (Or.inl ⟨by rfl, ?_⟩) hHeld ?_
        rotate_left
        · intro Wz hWz; clear hWz; go_simp; (try with_reducible rfl)
        try simp only [Act.put, List.setIfInBounds_toArray, List.set_cons_zero, List.set_cons_succ, List.getElem_toArray, List.getElem_cons_zero, List.getElem_cons_succ]
        refine wpAnyH_ready (rs := [1]) (by kernel_rfl) (by simp) ?_
        refine AllReadyH.cons rfl (fun K hK => ?_) AllReadyH.nil
        go_simp
        refine (HH.out.readyNo A x _ (HX8.out.pipesHere HIX.out) HXL.out.cost HXL.out.time HER.out).mono ?_
        rintro e w9 ⟨a9, c9, rfl, hb9⟩
        have HX9 := Lib.hid (HX8.out.later hb9)
        clear hb9
        refine hK.out _ _ ?_ (fun hHeld => ?_)
        · exact HX9.out.blk
        clear hK K
        try simp only [Act.put, List.setIfInBounds_toArray, List.set_cons_zero, List.set_cons_succ, List.getElem_toArray, List.getElem_cons_zero, List.getElem_cons_succ]
        refine wpAnyH_take (i := 2) (v := ?_) rfl (by kernel_rfl) (by kernel_rfl) (by kernel_rfl) (fun _ _ _ h => h) (Or.inl ⟨by rfl, ?_⟩) hHeld ?_
        rotate_left
        · intro Wz hWz; clear hWz; go_simp; (try with_reducible rfl)
        try simp only [Act.put, List.setIfInBounds_toArray, List.set_cons_zero, List.set_cons_succ, List.getElem_toArray, List.getElem_cons_zero, List.getElem_cons_succ]
        refine wpAnyH_ready (rs := [5]) (by kernel_rfl) (by simp) ?_
        refine AllReadyH.cons rfl (fun K hK => ?_) AllReadyH.nil
        go_simp
        refine (HH.out.outNo A x m _ (HX9.out.pipesHere HIX.out) HXL.out.cost HXL.out.time HMF.out (.inl HER.out)).mono ?_
        rintro e w10 ⟨a10, c10, rfl, hb10⟩
        have HX10 := Lib.hid (HX9.out.later hb10)
        clear hb10
        refine hK.out _ _ ?_ (fun hHeld => ?_)
        · exact HX10.out.blk
        clear hK K
        try simp only [Act.put, List.setIfInBounds_toArray, List.set_cons_zero, List.set_cons_succ, List.getElem_toArray, List.getElem_cons_zero, List.getElem_cons_succ]
        refine wpAnyH_take (i := 6) (v := ?_) rfl (by kernel_rfl) (by kernel_rfl) (by kernel_rfl) (fun _ _ _ h => h) (Or.inl ⟨by rfl, ?_⟩) hHeld ?_
        rotate_left
        · intro Wz hWz; clear hWz; go_simp; (try with_reducible rfl)
        try simp only [Act.put, List.setIfInBounds_toArray, List.set_cons_zero, List.set_cons_succ, List.getElem_toArray, List.getElem_cons_zero, List.getElem_cons_succ]
        refine wpAnyH_take (i := 7) (v := ?_) rfl (by kernel_rfl) (by kernel_rfl) (by kernel_rfl) (fun _ _ _ h => h) (Or.inl ⟨by rfl, ?_⟩) hHeld ?_
        rotate_left
        · intro Wz hWz; clear hWz; go_simp; (try with_reducible rfl)
        try simp only [Act.put, List.setIfInBounds_toArray, List.set_cons_zero, List.set_cons_succ, List.getElem_toArray, List.getElem_cons_zero, List.getElem_cons_succ]
        try simp only [hw0]
        refine wpAnyH_ready (rs := [10]) (by kernel_rfl) (by simp) ?_
        refine AllReadyH.cons rfl (fun K hK => ?_) AllReadyH.nil
        go_simp
        refine (HH.out.backNo A x m _ (HX10.out.pipesHere HIX.out) HXL.out.cost HXL.out.time HMF.out (.inl HER.out)).mono ?_
        rintro e w11 ⟨a11, c11, rfl, hb11⟩
        have HX11 := Lib.hid (HX10.out.later hb11)
        clear hb11
        refine hK.out _ _ ?_ (fun hHeld => ?_)
        · exact HX11.out.blk
        clear hK K
        try simp only [Act.put, List.setIfInBounds_toArray, List.set_cons_zero, List.set_cons_succ, List.getElem_toArray, List.getElem_cons_zero, List.getElem_cons_succ]
        refine wpAnyH_take (i := 11) (v := ?_) rfl (by kernel_rfl) (by kernel_rfl) (by kernel_rfl) (fun _ _ _ h => h) (Or.inl ⟨by rfl, ?_⟩) hHeld ?_
        rotate_left
        · intro Wz hWz; clear hWz; go_simp; (try with_reducible rfl)
        try simp only [Act.put, List.setIfInBounds_toArray, List.set_cons_zero, List.set_cons_succ, List.getElem_toArray, List.getElem_cons_zero, List.getElem_cons_succ]
        refine wpAnyH_take (i := 12) (v := ?_) rfl (by kernel_rfl) (by kernel_rfl) (by kernel_rfl) (fun _ _ _ h => h) (Or.inl ⟨by rfl, ?_⟩) hHeld ?_
        rotate_left
        · intro Wz hWz; clear hWz; go_simp; (try with_reducible rfl)
        try simp only [Act.put, List.setIfInBounds_toArray, List.set_cons_zero, List.set_cons_succ, List.getElem_toArray, List.getElem_cons_zero, List.getElem_cons_succ]
        try simp only [hw0]
        refine wpAnyH_ready (rs := [14]) (by kernel_rfl) (by simp) ?_
        refine AllReadyH.cons rfl (fun K hK => ?_) AllReadyH.nil
        go_simp
        refine (HH.out.maysNo A x _ (HX11.out.pipesHere HIX.out) HXL.out.cost HXL.out.time HER.out).mono ?_
        rintro e w12 ⟨a12, c12, rfl, hb12⟩
        have HX12 := Lib.hid (HX11.out.later hb12)
        clear hb12
        refine hK.out _ _ ?_ (fun hHeld => ?_)
        · exact HX12.out.blk
        clear hK K
        try simp only [Act.put, List.setIfInBounds_toArray, List.set_cons_zero, List.set_cons_succ, List.getElem_toArray, List.getElem_cons_zero, List.getElem_cons_succ]
        refine wpAnyH_take (i := 15) (v := ?_) rfl (by kernel_rfl) (by kernel_rfl) (by kernel_rfl) (fun _ _ _ h => h) (Or.inl ⟨by rfl, ?_⟩) hHeld ?_
        rotate_left
        · intro Wz hWz; clear hWz; go_simp; (try with_reducible rfl)
        try simp only [Act.put, List.setIfInBounds_toArray, List.set_cons_zero, List.set_cons_succ, List.getElem_toArray, List.getElem_cons_zero, List.getElem_cons_succ]
        refine wpAnyH_take (i := 16) (v := ?_) rfl (by kernel_rfl) (by kernel_rfl) (by kernel_rfl) (fun _ _ _ h => h) (Or.inl ⟨by rfl, ?_⟩) hHeld ?_
        rotate_left
        · intro Wz hWz; clear hWz; go_simp; (try with_reducible rfl)
        try simp only [Act.put, List.setIfInBounds_toArray, List.set_cons_zero, List.set_cons_succ, List.getElem_toArray, List.getElem_cons_zero, List.getElem_cons_succ]
        try simp only [hw0]
        refine wpAnyH_take (i := 17) (v := ?_) rfl (by kernel_rfl) (by kernel_rfl) (by kernel_rfl) (fun _ _ _ h => h) (Or.inl ⟨by rfl, ?_⟩) hHeld ?_
        rotate_left
        · intro Wz hWz; clear hWz; go_simp; (try with_reducible rfl)
        try simp only [Act.put, List.setIfInBounds_toArray, List.set_cons_zero, List.set_cons_succ, List.getElem_toArray, List.getElem_cons_zero, List.getElem_cons_succ]
        refine wpAnyH_take (i := 18) (v := ?_) rfl (by kernel_rfl) (by kernel_rfl) (by kernel_rfl) (fun _ _ _ h => h) (Or.inl ⟨by rfl, ?_⟩) hHeld ?_
        rotate_left
        · intro Wz hWz; clear hWz; go_simp; (try with_reducible rfl)
        try simp only [Act.put, List.setIfInBounds_toArray, List.set_cons_zero, List.set_cons_succ, List.getElem_toArray, List.getElem_cons_zero, List.getElem_cons_succ]
        refine wpAnyH_done (by kernel_rfl) ?_ _
        clear hHeld
        go_wp2_with fail
        go_ret
        exact ⟨by simp, HX12.out.below⟩
  · skip
    go_enter Try.func6, Try.ntmps6
    go_wp2_with (first
      | (go_at_call 8; refine (reach_awake HH.out _).mono ?_; rintro e w1 ⟨rfl, hb1⟩; have HS1 := Lib.hid (HS.out.later hb1); have HX1 := Lib.hid (HX0.out.later hb1); obtain ⟨j0, j1, j2, j3, j4, j5, j6, j7, j8, j9, j10⟩ := HS1.out.cells; rw [hz1] at j0 j1 j2 j3 j4 j5 j6 j7 j8 j9 j10; clear hb1)
      | (go_at_call 9; refine (HMK.out _ (HS1.out.here HSM.out)).mono ?_; rintro e w2 ⟨⟨A2, rfl, C, D, VK, VT, hown⟩, hb2⟩; have HI2 := Lib.hid hown.is_; have HY3 := Lib.hid (XBox.make (Below.refl _ w2) A2 y); have HI3 := Lib.hid (HY3.out.pipesHere HI2.out); have HX3 := Lib.hid ((HX1.out.later hb2).later ((Below.refl w2.heap.size w2).alloc (Nat.le_refl _) (.cells (insC A2 y) 34))); obtain ⟨i0, i1, i2, i3, i4, i5, i6, i7, i8⟩ := HY3.out.cells; clear hown hb2 j0 j1 j2 j3 j4 j5 j6 j7 j8 j9 j10))
    obtain ⟨w3, hw3⟩ : ∃ z, z = w2.alloc (.cells #[.int .i64 y.en, .int .i64 y.tm, .int .i64 y.tr, .int .i64 y.bm, .int .i64 y.br, .slice A2.sa y.sats.length A2.sc, .slice A2.ca y.cus.length A2.cc, .slice A2.ka y.cost.length A2.kc, .slice A2.ta y.time.length A2.tc] 34) := ⟨_, rfl⟩
    rw [← hw3] at HY3 HI3 HX3 ⊢
    obtain ⟨gy, hgy⟩ : ∃ b, b = w2.heap.size := ⟨_, rfl⟩
    rw [← hgy] at HY3 ⊢
    clear hw3 hgy i0 i1 i2 i3 i4 i5 i6 i7 i8
    have HY4 := Lib.hid (HY3.out.later (Below.refl _ _).drew)
    have HX4 := Lib.hid (HX3.out.later (Below.refl _ _).drew)
    have HI4 : Hid (IsIns w3.drew.heap.size w3.drew A2 y) := Lib.hid (HI3.out.later (Below.refl _ _).drew)
    refine wp_region_held_drew (S := (fun Wz => Wz.heap[gy]? = some (.cells #[.int .i64 y.en, .int .i64 y.tm, .int .i64 y.tr, .int .i64 y.bm, .int .i64 y.br, .slice A2.sa y.sats.length A2.sc, .slice A2.ca y.cus.length A2.cc, .slice A2.ka y.cost.length A2.kc, .slice A2.ta y.time.length A2.tc] 34 (0, 0)))) (by kernel_rfl) HY4.out.blk (fun hHeld => ?_)
    refine wpAnyH_take (i := 0) (v := ?_) rfl (by kernel_rfl) (by kernel_rfl) (by kernel_rfl) (fun _ _ _ h => h) (Or.inl ⟨by rfl, ?_⟩) hHeld ?_
    rotate_left
    · intro Wz hWz; obtain ⟨k0, k1, k2, k3, k4, k5, k6, k7, k8, _⟩ := cells9 hWz; go_simp; (try with_reducible rfl)
    try simp only [Act.put, List.setIfInBounds_toArray, List.set_cons_zero, List.set_cons_succ, List.getElem_toArray, List.getElem_cons_zero]
    refine wpAnyH_take (i := 1) (v := ?_) rfl (by kernel_rfl) (by kernel_rfl) (by kernel_rfl) (fun _ _ _ h => h) (Or.inl ⟨by rfl, ?_⟩) hHeld ?_
    rotate_left
    · intro Wz hWz; clear hWz; go_simp; (try with_reducible rfl)
    try simp only [Act.put, List.setIfInBounds_toArray, List.set_cons_zero, List.set_cons_succ, List.getElem_toArray, List.getElem_cons_zero, List.getElem_cons_succ]
    refine wpAnyH_take (i := 4) (v := ?_) rfl (by kernel_rfl) (by kernel_rfl) (by kernel_rfl) (fun _ _ _ h => h) (Or.inl ⟨by rfl, ?_⟩) hHeld ?_
    rotate_left
    · intro Wz hWz; obtain ⟨k0, k1, k2, k3, k4, k5, k6, k7, k8, _⟩ := cells9 hWz; go_simp; (try with_reducible rfl)
    try simp only [Act.put, List.setIfInBounds_toArray, List.set_cons_zero, List.set_cons_succ, List.getElem_toArray, List.getElem_cons_zero, List.getElem_cons_succ]
    refine wpAnyH_take (i := 5) (v := ?_) rfl (by kernel_rfl) (by kernel_rfl) (by kernel_rfl) (fun _ _ _ h => h) (Or.inl ⟨by rfl, ?_⟩) hHeld ?_
    rotate_left
    · intro Wz hWz; clear hWz; go_simp; (try with_reducible rfl)
    try simp only [Act.put, List.setIfInBounds_toArray, List.set_cons_zero, List.set_cons_succ, List.getElem_toArray, List.getElem_cons_zero, List.getElem_cons_succ]
    refine wpAnyH_ready (rs := [2]) (by kernel_rfl) (by simp) ?_
    refine AllReadyH.cons rfl (fun K hK => ?_) AllReadyH.nil
    go_simp
    refine (HH.out.outNo A2 y m _ HI4.out HYK.out.1 HYK.out.2 HMF.out (.inr HMO.out)).mono ?_
    rintro e w5 ⟨a5, c5, rfl, hb5⟩
    have HY5 := Lib.hid (HY4.out.later hb5)
    have HX5 := Lib.hid (HX4.out.later hb5)
    have HI5 := Lib.hid ((HI4.out.later hb5).mono hb5.size)
    clear hb5
    refine hK.out _ _ ?_ (fun hHeld => ?_)
    · exact HY5.out.blk
    clear hK K
    try simp only [Act.put, List.setIfInBounds_toArray, List.set_cons_zero, List.set_cons_succ, List.getElem_toArray, List.getElem_cons_zero, List.getElem_cons_succ]
    refine wpAnyH_take (i := 3) (v := ?_) rfl (by kernel_rfl) (by kernel_rfl) (by kernel_rfl) (fun _ _ _ h => h) (Or.inl ⟨by rfl, ?_⟩) hHeld ?_
    rotate_left
    · intro Wz hWz; clear hWz; go_simp; (try with_reducible rfl)
    try simp only [Act.put, List.setIfInBounds_toArray, List.set_cons_zero, List.set_cons_succ, List.getElem_toArray, List.getElem_cons_zero, List.getElem_cons_succ]
    refine wpAnyH_ready (rs := [6]) (by kernel_rfl) (by simp) ?_
    refine AllReadyH.cons rfl (fun K hK => ?_) AllReadyH.nil
    go_simp
    refine (HH.out.backNo A2 y m _ HI5.out HYK.out.1 HYK.out.2 HMF.out (.inr HMO.out)).mono ?_
    rintro e w6 ⟨a6, c6, rfl, hb6⟩
    have HY6 := Lib.hid (HY5.out.later hb6)
    have HX6 := Lib.hid (HX5.out.later hb6)
    clear hb6
    refine hK.out _ _ ?_ (fun hHeld => ?_)
    · exact HY6.out.blk
    clear hK K
    try simp only [Act.put, List.setIfInBounds_toArray, List.set_cons_zero, List.set_cons_succ, List.getElem_toArray, List.getElem_cons_zero, List.getElem_cons_succ]
    refine wpAnyH_take (i := 7) (v := ?_) rfl (by kernel_rfl) (by kernel_rfl) (by kernel_rfl) (fun _ _ _ h => h) (Or.inl ⟨by rfl, ?_⟩) hHeld ?_
    rotate_left
    · intro Wz hWz; clear hWz; go_simp; (try with_reducible rfl)
    try simp only [Act.put, List.setIfInBounds_toArray, List.set_cons_zero, List.set_cons_succ, List.getElem_toArray, List.getElem_cons_zero, List.getElem_cons_succ]
    refine wpAnyH_take (i := 8) (v := ?_) rfl (by kernel_rfl) (by kernel_rfl) (by kernel_rfl) (fun _ _ _ h => h) (Or.inl ⟨by rfl, ?_⟩) hHeld ?_
    rotate_left
    · intro Wz hWz; clear hWz; go_simp; (try with_reducible rfl)
    try simp only [Act.put, List.setIfInBounds_toArray, List.set_cons_zero, List.set_cons_succ, List.getElem_toArray, List.getElem_cons_zero, List.getElem_cons_succ]
    try simp only [hw0]
    refine wpAnyH_take (i := 9) (v := ?_) rfl (by kernel_rfl) (by kernel_rfl) (by kernel_rfl) (fun _ _ _ h => h) (Or.inl ⟨by rfl, ?_⟩) hHeld ?_
    rotate_left
    · intro Wz hWz; clear hWz; go_simp; (try with_reducible rfl)
    try simp only [Act.put, List.setIfInBounds_toArray, List.set_cons_zero, List.set_cons_succ, List.getElem_toArray, List.getElem_cons_zero, List.getElem_cons_succ]
    refine wpAnyH_done (by kernel_rfl) ?_ _
    clear hHeld
    obtain ⟨k0, k1, k2, k3, k4, k5, k6, k7, k8⟩ := HX6.out.cells
    by_cases h60 : 60 < x.cus.length
    · go_wp2_with fail
      go_ret
      exact ⟨rfl, HX6.out.below⟩
    · obtain ⟨er, her⟩ : ∃ er, instErr x = er := ⟨_, rfl⟩
      by_cases h0 : er = 0
      · subst h0
        go_wp2_with (go_at_call 19; refine (check_wide A x _ (HX6.out.pipesHere HIX.out) HXL.out.cost HXL.out.time).mono ?_; rw [her]; rintro e w7 ⟨rfl, hb7⟩; have HX7 := Lib.hid (HX6.out.later hb7); clear hb7)
        go_ret
        exact ⟨rfl, HX7.out.below⟩
      · have HER : Hid (instErr x ≠ 0) := Lib.hid (by rw [her]; exact h0)
        have hz0 : (er == 0) = false := by simpa using h0
        have hdd : (decide (60 < (x.cus.length : Int)) || er == 0) = false := by rw [hz0, Bool.or_false]; exact decide_eq_false (by omega)
        go_wp2_with (go_at_call 19; refine (check_wide A x _ (HX6.out.pipesHere HIX.out) HXL.out.cost HXL.out.time).mono ?_; rw [her]; rintro e w7 ⟨rfl, hb7⟩; have HX7 := Lib.hid (HX6.out.later hb7); clear hb7)
        clear her k0 k1 k2 k3 k4 k5 k6 k7 k8
        have HX8 := Lib.hid (HX7.out.later (Below.refl _ _).drew)
        refine wp_region_held_drew (S := (fun Wz => Wz.heap[w.heap.size]? = some (.cells #[.int .i64 x.en, .int .i64 x.tm, .int .i64 x.tr, .int .i64 x.bm, .int .i64 x.br, .slice A.sa x.sats.length A.sc, .slice A.ca x.cus.length A.cc, .slice A.ka x.cost.length A.kc, .slice A.ta x.time.length A.tc] 34 (0, 0)))) (by kernel_rfl) HX8.out.blk (fun hHeld => ?_)
        refine wpAnyH_take (i := 0) (v := ?_) rfl (by kernel_rfl) (by kernel_rfl) (by kernel_rfl) (fun _ _ _ h => h) (Or.inl ⟨by rfl, ?_⟩) hHeld ?_
        rotate_left
        · intro Wz hWz; obtain ⟨k0, k1, k2, k3, k4, k5, k6, k7, k8, _⟩ := cells9 hWz; go_simp; (try with_reducible rfl)
        try simp only [Act.put, List.setIfInBounds_toArray, List.set_cons_zero, List.set_cons_succ, List.getElem_toArray, List.getElem_cons_zero]
        refine wpAnyH_take (i := 3) (v := ?_) rfl (by kernel_rfl) (by kernel_rfl) (by kernel_rfl) (fun _ _ _ h => h) (Or.inl ⟨by rfl, ?_⟩) hHeld ?_
        rotate_left
        · intro Wz hWz; obtain ⟨k0, k1, k2, k3, k4, k5, k6, k7, k8, _⟩ := cells9 hWz; go_simp; (try with_reducible rfl)
        try simp only [Act.put, List.setIfInBounds_toArray, List.set_cons_zero, List.set_cons_succ, List.getElem_toArray, List.getElem_cons_zero, List.getElem_cons_succ]
        refine wpAnyH_take (i := 8) (v := ?_) rfl (by kernel_rfl) (by kernel_rfl) (by kernel_rfl) (fun _ _ _ h => h) (Or.inl ⟨by rfl, ?_⟩) hHeld ?_
        rotate_left
        · intro Wz hWz; obtain ⟨k0, k1, k2, k3, k4, k5, k6, k7, k8, _⟩ := cells9 hWz; go_simp; (try with_reducible rfl)
        try simp only [Act.put, List.setIfInBounds_toArray, List.set_cons_zero, List.set_cons_succ, List.getElem_toArray, List.getElem_cons_zero, List.getElem_cons_succ]
        refine wpAnyH_take (i := 13) (v := ?_) rfl (by kernel_rfl) (by kernel_rfl) (by kernel_rfl) (fun _ _ _ h => h) (Or.inl ⟨by rfl, ?_⟩) hHeld ?_
        rotate_left
        · intro Wz hWz; obtain ⟨k0, k1, k2, k3, k4, k5, k6, k7, k8, _⟩ := cells9 hWz; go_simp; (try with_reducible rfl)
        try simp only [Act.put, List.setIfInBounds_toArray, List.set_cons_zero, List.set_cons_succ, List.getElem_toArray, List.getElem_cons_zero, List.getElem_cons_succ]
        refine wpAnyH_take (i := 4) (v := ?_) rfl (by kernel_rfl) (by kernel_rfl) (by kernel_rfl) (fun _ _ _ h => h) (Or.inl ⟨by rfl, ?_⟩) hHeld ?_
        rotate_left
        · intro Wz hWz; clear hWz; go_simp; (try with_reducible rfl)
        try simp only [Act.put, List.setIfInBounds_toArray, List.set_cons_zero, List.set_cons_succ, List.getElem_toArray, List.getElem_cons_zero, List.getElem_cons_succ]
        refine wpAnyH_take (i := 9) (v := ?_) rfl (by kernel_rfl) (by kernel_rfl) (by kernel_rfl) (fun _ _ _ h => h) (Or.inl ⟨by rfl, ?_⟩) hHeld ?_
        rotate_left
        · intro Wz hWz; clear hWz; go_simp; (try with_reducible rfl)
        try simp only [Act.put, List.setIfInBounds_toArray, List.set_cons_zero, List.set_cons_succ, List.getElem_toArray, List.getElem_cons_zero, List.getElem_cons_succ]
        refine wpAnyH_ready (rs := [1]) (by kernel_rfl) (by simp) ?_
        refine AllReadyH.cons rfl (fun K hK => ?_) AllReadyH.nil
        go_simp
        refine (HH.out.readyNo A x _ (HX8.out.pipesHere HIX.out) HXL.out.cost HXL.out.time HER.out).mono ?_
        rintro e w9 ⟨a9, c9, rfl, hb9⟩
        have HX9 := Lib.hid (HX8.out.later hb9)
        clear hb9
        refine hK.out _ _ ?_ (fun hHeld => ?_)
        · exact HX9.out.blk
        clear hK K
        try simp only [Act.put, List.setIfInBounds_toArray, List.set_cons_zero, List.set_cons_succ, List.getElem_toArray, List.getElem_cons_zero, List.getElem_cons_succ]
        refine wpAnyH_take (i := 2) (v := ?_) rfl (by kernel_rfl) (by kernel_rfl) (by kernel_rfl) (fun _ _ _ h => h) (Or.inl ⟨by rfl, ?_⟩) hHeld ?_
        rotate_left
        · intro Wz hWz; clear hWz; go_simp; (try with_reducible rfl)
        try simp only [Act.put, List.setIfInBounds_toArray, List.set_cons_zero, List.set_cons_succ, List.getElem_toArray, List.getElem_cons_zero, List.getElem_cons_succ]
        refine wpAnyH_ready (rs := [5]) (by kernel_rfl) (by simp) ?_
        refine AllReadyH.cons rfl (fun K hK => ?_) AllReadyH.nil
        go_simp
        refine (HH.out.outNo A x m _ (HX9.out.pipesHere HIX.out) HXL.out.cost HXL.out.time HMF.out (.inl HER.out)).mono ?_
        rintro e w10 ⟨a10, c10, rfl, hb10⟩
        have HX10 := Lib.hid (HX9.out.later hb10)
        clear hb10
        refine hK.out _ _ ?_ (fun hHeld => ?_)
        · exact HX10.out.blk
        clear hK K
        try simp only [Act.put, List.setIfInBounds_toArray, List.set_cons_zero, List.set_cons_succ, List.getElem_toArray, List.getElem_cons_zero, List.getElem_cons_succ]
        refine wpAnyH_take (i := 6) (v := ?_) rfl (by kernel_rfl) (by kernel_rfl) (by kernel_rfl) (fun _ _ _ h => h) (Or.inl ⟨by rfl, ?_⟩) hHeld ?_
        rotate_left
        · intro Wz hWz; clear hWz; go_simp; (try with_reducible rfl)
        try simp only [Act.put, List.setIfInBounds_toArray, List.set_cons_zero, List.set_cons_succ, List.getElem_toArray, List.getElem_cons_zero, List.getElem_cons_succ]
        refine wpAnyH_take (i := 7) (v := ?_) rfl (by kernel_rfl) (by kernel_rfl) (by kernel_rfl) (fun _ _ _ h => h) (Or.inl ⟨by rfl, ?_⟩) hHeld ?_
        rotate_left
        · intro Wz hWz; clear hWz; go_simp; (try with_reducible rfl)
        try simp only [Act.put, List.setIfInBounds_toArray, List.set_cons_zero, List.set_cons_succ, List.getElem_toArray, List.getElem_cons_zero, List.getElem_cons_succ]
        try simp only [hw0]
        refine wpAnyH_ready (rs := [10]) (by kernel_rfl) (by simp) ?_
        refine AllReadyH.cons rfl (fun K hK => ?_) AllReadyH.nil
        go_simp
        refine (HH.out.backNo A x m _ (HX10.out.pipesHere HIX.out) HXL.out.cost HXL.out.time HMF.out (.inl HER.out)).mono ?_
        rintro e w11 ⟨a11, c11, rfl, hb11⟩
        have HX11 := Lib.hid (HX10.out.later hb11)
        clear hb11
        refine hK.out _ _ ?_ (fun hHeld => ?_)
        · exact HX11.out.blk
        clear hK K
        try simp only [Act.put, List.setIfInBounds_toArray, List.set_cons_zero, List.set_cons_succ, List.getElem_toArray, List.getElem_cons_zero, List.getElem_cons_succ]
        refine wpAnyH_take (i := 11) (v := ?_) rfl (by kernel_rfl) (by kernel_rfl) (by kernel_rfl) (fun _ _ _ h => h) (Or.inl ⟨by rfl, ?_⟩) hHeld ?_
        rotate_left
        · intro Wz hWz; clear hWz; go_simp; (try with_reducible rfl)
        try simp only [Act.put, List.setIfInBounds_toArray, List.set_cons_zero, List.set_cons_succ, List.getElem_toArray, List.getElem_cons_zero, List.getElem_cons_succ]
        refine wpAnyH_take (i := 12) (v := ?_) rfl (by kernel_rfl) (by kernel_rfl) (by kernel_rfl) (fun _ _ _ h => h) (Or.inl ⟨by rfl, ?_⟩) hHeld ?_
        rotate_left
        · intro Wz hWz; clear hWz; go_simp; (try with_reducible rfl)
        try simp only [Act.put, List.setIfInBounds_toArray, List.set_cons_zero, List.set_cons_succ, List.getElem_toArray, List.getElem_cons_zero, List.getElem_cons_succ]
        try simp only [hw0]
        refine wpAnyH_ready (rs := [14]) (by kernel_rfl) (by simp) ?_
        refine AllReadyH.cons rfl (fun K hK => ?_) AllReadyH.nil
        go_simp
        refine (HH.out.maysNo A x _ (HX11.out.pipesHere HIX.out) HXL.out.cost HXL.out.time HER.out).mono ?_
        rintro e w12 ⟨a12, c12, rfl, hb12⟩
        have HX12 := Lib.hid (HX11.out.later hb12)
        clear hb12
        refine hK.out _ _ ?_ (fun hHeld => ?_)
        · exact HX12.out.blk
        clear hK K
        try simp only [Act.put, List.setIfInBounds_toArray, List.set_cons_zero, List.set_cons_succ, List.getElem_toArray, List.getElem_cons_zero, List.getElem_cons_succ]
        refine wpAnyH_take (i := 15) (v := ?_) rfl (by kernel_rfl) (by kernel_rfl) (by kernel_rfl) (fun _ _ _ h => h) (Or.inl ⟨by rfl, ?_⟩) hHeld ?_
        rotate_left
        · intro Wz hWz; clear hWz; go_simp; (try with_reducible rfl)
        try simp only [Act.put, List.setIfInBounds_toArray, List.set_cons_zero, List.set_cons_succ, List.getElem_toArray, List.getElem_cons_zero, List.getElem_cons_succ]
        refine wpAnyH_take (i := 16) (v := ?_) rfl (by kernel_rfl) (by kernel_rfl) (by kernel_rfl) (fun _ _ _ h => h) (Or.inl ⟨by rfl, ?_⟩) hHeld ?_
        rotate_left
        · intro Wz hWz; clear hWz; go_simp; (try with_reducible rfl)
        try simp only [Act.put, List.setIfInBounds_toArray, List.set_cons_zero, List.set_cons_succ, List.getElem_toArray, List.getElem_cons_zero, List.getElem_cons_succ]
        try simp only [hw0]
        refine wpAnyH_take (i := 17) (v := ?_) rfl (by kernel_rfl) (by kernel_rfl) (by kernel_rfl) (fun _ _ _ h => h) (Or.inl ⟨by rfl, ?_⟩) hHeld ?_
        rotate_left
        · intro Wz hWz; clear hWz; go_simp; (try with_reducible rfl)
        try simp only [Act.put, List.setIfInBounds_toArray, List.set_cons_zero, List.set_cons_succ, List.getElem_toArray, List.getElem_cons_zero, List.getElem_cons_succ]
        refine wpAnyH_take (i := 18) (v := ?_) rfl (by kernel_rfl) (by kernel_rfl) (by kernel_rfl) (fun _ _ _ h => h) (Or.inl ⟨by rfl, ?_⟩) hHeld ?_
        rotate_left
        · intro Wz hWz; clear hWz; go_simp; (try with_reducible rfl)
        try simp only [Act.put, List.setIfInBounds_toArray, List.set_cons_zero, List.set_cons_succ, List.getElem_toArray, List.getElem_cons_zero, List.getElem_cons_succ]
        refine wpAnyH_done (by kernel_rfl) ?_ _
        clear hHeld
        go_wp2_with fail
        go_ret
        exact ⟨by simp, HX12.out.below⟩
end Go.Proofs.Ytchdpapaojkbhaa
