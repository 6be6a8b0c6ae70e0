/- The walk of the law on a later end, a later close and more room. -/
import Derived.Test.YtchdpapaojkbhaaRSoon
import Derived.Test.YtchdpapaojkbhaaRAwake
import Derived.Test.YtchdpapaojkbhaaRMo
import Derived.Test.YtchdpapaojkbhaaBtA
import Derived.Deep.CutRange
namespace Go.Proofs.Ytchdpapaojkbhaa
open Go.RowKit

theorem less_none {a b : Nat} (ha : a < 18446744073709551616) (hb : b < 18446744073709551616) (h : ∀ c, c < 64 → a.testBit c = true → b.testBit c = true) : lessN a b = 0 := by
  apply bits_ext (lessN_lt ha b) (by decide)
  intro i hi
  rw [less_bit a b i hb hi, Nat.zero_testBit]
  cases e : a.testBit i with
  | false => rfl
  | true => rw [h i hi e]; rfl
set_option maxHeartbeats 8000000 in
set_option maxRecDepth 100000 in
theorem reachSooner_walk (H : ReachSpec) (A : SmA) (s : Sm) (at_ n : Int) (ha1 : 0 ≤ at_ ∧ at_ ≤ 255) (hz1 : 0 ≤ n ∧ n ≤ 255) (w : World) (hs : IsSm w.heap.size w A s) :
    Calls Try.prog 7 #[.agg (smC A s), .int .u8 at_, .int .u8 n] w fun e w' => e = .returned (.bool true) ∧ Below w.heap.size w w' := by
  have HH := Lib.hid H
  have HS := Lib.hid (SBox.make w A s)
  have HSM := Lib.hid hs
  have HMK := Lib.hid (fun (W : World) (h : IsSm W.heap.size W A s) => make_any A s W h)
  have HM := Lib.hid (may_make hs.okl)
  have HLOW := Lib.hid (makeI_low hs.okl)
  have HLW2 := Lib.hid (makeI_low2 hs.okl)
  have hn1 : (makeI s).sats.length ≤ 3 := (satsOf_le s).2
  have hn2 : 1 ≤ (makeI s).cus.length ∧ (makeI s).cus.length ≤ 6 := cusOf_le s
  have hn4 : 3 ≤ nodesOf s ∧ nodesOf s ≤ 10 := nodes_le s
  obtain ⟨m, hm⟩ : ∃ m, makeI s = m := ⟨_, rfl⟩
  obtain ⟨N, hN⟩ : ∃ N, nodesOf s = N := ⟨_, rfl⟩
  rw [hm] at hn1 hn2 HMK HM HLOW HLW2
  rw [hN] at hn4 HMK
  have hns := HM.out.ns
  clear hm hN hs H
  unfold smC insC at *
  go_enter Try.func7, Try.ntmps7
  go_wp2_with (go_at_call 8; refine (reach_awake HH.out _).mono ?_; rintro e w1 ⟨rfl, hb1⟩; have HS1 := Lib.hid (HS.out.later hb1); clear hb1 HS)
  go_upto_region 3 with fail
  go_cut [7, 8] from 15 to 18 (fun p q wx => ∃ ga gb D0 A3 A4 B C D VK VT LK LT, p = .pointer (some ⟨ga, 0, none⟩) ∧ q = .pointer (some ⟨gb, 0, none⟩) ∧ BW w wx D0 ga A s A3 m ∧ Fresh wx gb B A4 m N C D VK VT LK LT ∧ ga ≠ gb ∧ w.heap.size + 1 ≤ gb ∧ D0 ≤ B)
  case first =>
    have HD1 := Lib.hid (HS1.out.later (Below.refl _ w1).drew)
    obtain ⟨v1, hv1⟩ : ∃ v1, World.drew w1 = v1 := ⟨_, rfl⟩
    have H1 := HD1
    rw [hv1] at H1
    refine wp_region_held_drew (S := fun W => W.cell? ⟨w.heap.size, 0, none⟩ = some (.int .u8 s.e) ∧ W.cell? ⟨w.heap.size, 1, none⟩ = some (.int .u8 s.t) ∧ W.cell? ⟨w.heap.size, 2, none⟩ = some (.int .u8 s.tr) ∧ W.cell? ⟨w.heap.size, 3, none⟩ = some (.int .u8 s.b) ∧ W.cell? ⟨w.heap.size, 4, none⟩ = some (.int .u8 s.br) ∧ W.cell? ⟨w.heap.size, 5, none⟩ = some (.slice A.sa s.sats.length A.sc) ∧ W.cell? ⟨w.heap.size, 6, none⟩ = some (.slice A.wa s.whos.length A.wc) ∧ W.cell? ⟨w.heap.size, 7, none⟩ = some (.slice A.ca A.cn A.cc) ∧ W.cell? ⟨w.heap.size, 8, none⟩ = some (.slice A.ta A.tn A.tc) ∧ W.cell? ⟨w.heap.size, 9, none⟩ = some (.bool s.tight) ∧ W.cell? ⟨w.heap.size, 10, none⟩ = some (.bool s.loose)) (by kernel_rfl) HD1.out.cells (fun hHeld => ?_)
    rw [hv1] at hHeld ⊢
    clear hv1 HD1 HS1
    refine wpAnyH_take (i := 0) (v := ?_) rfl (by kernel_rfl) (by kernel_rfl) (by kernel_rfl) (fun _ _ _ h => h) (Or.inl ⟨by rfl, ?_⟩) hHeld ?_
    rotate_left
    · intro W0 hW; obtain ⟨hW0, hW1, hW2, hW3, hW4, hW5, hW6, hW7, hW8, hW9, hW10⟩ := hW; go_simp; (try with_reducible rfl)
    try simp only [Act.put, List.setIfInBounds_toArray, List.set_cons_zero, List.set_cons_succ, List.getElem_toArray, List.getElem_cons_zero]
    refine wpAnyH_take (i := 2) (v := ?_) rfl (by kernel_rfl) (by kernel_rfl) (by kernel_rfl) (fun _ _ _ h => h) (Or.inl ⟨by rfl, ?_⟩) hHeld ?_
    rotate_left
    · intro W0 hW; obtain ⟨hW0, hW1, hW2, hW3, hW4, hW5, hW6, hW7, hW8, hW9, hW10⟩ := hW; go_simp; (try with_reducible rfl)
    try simp only [Act.put, List.setIfInBounds_toArray, List.set_cons_zero, List.set_cons_succ, List.getElem_toArray, List.getElem_cons_zero, List.getElem_cons_succ]
    refine wpAnyH_ready (rs := [1, 4, 5]) (by kernel_rfl) (by simp) ?_
    refine AllReadyH.cons rfl (fun K hK => ?_) (AllReadyH.cons rfl (fun K hK => ?_) (AllReadyH.cons rfl (fun K hK => ?_) (AllReadyH.nil)))
    · go_simp
      refine (HMK.out _ (H1.out.here HSM.out)).mono ?_
      rintro e v2 ⟨⟨A3, rfl, C3, D3, VK3, VT3, hown⟩, hb⟩
      have O2 := Lib.hid (AOwn.make hown)
      obtain ⟨D0, hD0⟩ : ∃ D0, v2.heap.size = D0 := ⟨_, rfl⟩
      have E2 : Hid (D0 ≤ v2.heap.size) := Lib.hid (by rw [hD0]; exact Nat.le_refl _)
      rw [hD0] at O2
      have H2 := Lib.hid (H1.out.later hb)
      have HDG : Hid (w.heap.size + 1 ≤ D0) := Lib.hid (by rw [← hD0]; exact H2.out.lt)
      clear hD0
      clear hown hb
      refine hK.out _ _ ?_ (fun hHeld => ?_)
      · exact H2.out.cells
      clear hK K
      try simp only [Act.put, List.setIfInBounds_toArray, List.set_cons_zero, List.set_cons_succ, List.getElem_toArray, List.getElem_cons_zero, List.getElem_cons_succ]
      refine wpAnyH_ready (rs := [3, 4, 5]) (by kernel_rfl) (by simp) ?_
      refine AllReadyH.cons rfl (fun K hK => ?_) (AllReadyH.cons rfl (fun K hK => ?_) (AllReadyH.cons rfl (fun K hK => ?_) (AllReadyH.nil)))
      · go_simp
        refine (HMK.out _ (H2.out.here HSM.out)).mono ?_
        rintro e v3 ⟨⟨A4, rfl, C4, D4, VK4, VT4, hown⟩, hb⟩
        have R3 := Lib.hid hown
        have HBD : Hid (D0 ≤ v2.heap.size + 3) := Lib.hid (by have := E2.out; omega)
        have H3 := Lib.hid (H2.out.later hb)
        have O3 := Lib.hid (O2.out.later hb)
        have E3 := Lib.hid (Nat.le_trans E2.out hb.size)
        clear hown hb
        refine hK.out _ _ ?_ (fun hHeld => ?_)
        · exact H3.out.cells
        clear hK K
        try simp only [Act.put, List.setIfInBounds_toArray, List.set_cons_zero, List.set_cons_succ, List.getElem_toArray, List.getElem_cons_zero, List.getElem_cons_succ]
        refine wpAnyH_ready (rs := [4, 5]) (by kernel_rfl) (by simp) ?_
        refine AllReadyH.cons rfl (fun K hK => ?_) (AllReadyH.cons rfl (fun K hK => ?_) (AllReadyH.nil))
        · go_simp
          have hb := below1 v3 (.cells #[.int .i64 0, .int .i64 0, .int .i64 0, .int .i64 0, .int .i64 0, .slice none 0 0, .slice none 0 0, .slice none 0 0, .slice none 0 0] 34)
          have H4 := Lib.hid (H3.out.later hb)
          have P4 := Lib.hid (heap_alloc_new v3 (.cells #[.int .i64 0, .int .i64 0, .int .i64 0, .int .i64 0, .int .i64 0, .slice none 0 0, .slice none 0 0, .slice none 0 0, .slice none 0 0] 34))
          have O4 := Lib.hid (O3.out.later hb)
          have E4 := Lib.hid (Nat.le_trans E3.out hb.size)
          have R4 := Lib.hid (R3.out.later hb)
          refine hK.out _ _ ?_ (fun hHeld => ?_)
          · exact H4.out.cells
          clear hK K
          try simp only [Act.put, List.setIfInBounds_toArray, List.set_cons_zero, List.set_cons_succ, List.getElem_toArray, List.getElem_cons_zero, List.getElem_cons_succ]
          obtain ⟨ga, hga⟩ : ∃ g, v3.heap.size = g := ⟨_, rfl⟩
          have HGga : Hid (w.heap.size + 1 ≤ ga) := Lib.hid (by rw [← hga]; exact H3.out.lt)
          obtain ⟨v4, hv4⟩ : ∃ W9, World.alloc v3 (.cells #[.int .i64 0, .int .i64 0, .int .i64 0, .int .i64 0, .int .i64 0, .slice none 0 0, .slice none 0 0, .slice none 0 0, .slice none 0 0] 34) = W9 := ⟨_, rfl⟩
          rw [hv4] at hHeld H4 P4 O4 E4 R4 ⊢
          rw [hga] at P4 ⊢
          clear hga hv4 hb
          refine wpAnyH_ready (rs := [5]) (by kernel_rfl) (by simp) ?_
          refine AllReadyH.cons rfl (fun K hK => ?_) (AllReadyH.nil)
          go_simp
          have hb := below1 v4 (.cells #[.int .i64 0, .int .i64 0, .int .i64 0, .int .i64 0, .int .i64 0, .slice none 0 0, .slice none 0 0, .slice none 0 0, .slice none 0 0] 34)
          have H5 := Lib.hid (H4.out.later hb)
          have Q5 := Lib.hid (heap_alloc_new v4 (.cells #[.int .i64 0, .int .i64 0, .int .i64 0, .int .i64 0, .int .i64 0, .slice none 0 0, .slice none 0 0, .slice none 0 0, .slice none 0 0] 34))
          have P5 := Lib.hid ((hb.block _ (Array.getElem?_eq_some_iff.1 P4.out).1).trans P4.out)
          have O5 := Lib.hid (O4.out.later hb)
          have E5 := Lib.hid (Nat.le_trans E4.out hb.size)
          have R5 := Lib.hid (R4.out.later hb)
          refine hK.out _ _ ?_ (fun hHeld => ?_)
          · exact H5.out.cells
          clear hK K
          try simp only [Act.put, List.setIfInBounds_toArray, List.set_cons_zero, List.set_cons_succ, List.getElem_toArray, List.getElem_cons_zero, List.getElem_cons_succ]
          obtain ⟨gb, hgb⟩ : ∃ g, v4.heap.size = g := ⟨_, rfl⟩
          have HGgb : Hid (w.heap.size + 1 ≤ gb) := Lib.hid (by rw [← hgb]; exact H4.out.lt)
          have HNE : Hid (ga ≠ gb) := Lib.hid (by have := (Array.getElem?_eq_some_iff.1 P4.out).1; omega)
          obtain ⟨v5, hv5⟩ : ∃ W9, World.alloc v4 (.cells #[.int .i64 0, .int .i64 0, .int .i64 0, .int .i64 0, .int .i64 0, .slice none 0 0, .slice none 0 0, .slice none 0 0, .slice none 0 0] 34) = W9 := ⟨_, rfl⟩
          rw [hv5] at hHeld H5 Q5 P5 O5 E5 R5 ⊢
          rw [hgb] at Q5 ⊢
          clear hgb hv5 hb
          obtain ⟨n0, n1, n2, n3, n4, n5, n6, n7, n8, nf⟩ := cells9 P5.out
          have PS := Lib.hid (storeI_blk (y0 := .int .i64 m.en) (y1 := .int .i64 m.tm) (y2 := .int .i64 m.tr) (y3 := .int .i64 m.bm) (y4 := .int .i64 m.br) (y5 := .slice A3.sa m.sats.length A3.sc) (y6 := .slice A3.ca m.cus.length A3.cc) (y7 := .slice A3.ka m.cost.length A3.kc) (y8 := .slice A3.ta m.time.length A3.tc) P5.out)
          have QS := Lib.hid ((storeI_other (y0 := .int .i64 m.en) (y1 := .int .i64 m.tm) (y2 := .int .i64 m.tr) (y3 := .int .i64 m.bm) (y4 := .int .i64 m.br) (y5 := .slice A3.sa m.sats.length A3.sc) (y6 := .slice A3.ca m.cus.length A3.cc) (y7 := .slice A3.ka m.cost.length A3.kc) (y8 := .slice A3.ta m.time.length A3.tc) (Ne.symm HNE.out)).trans Q5.out)
          have HS9 := Lib.hid (H5.out.mod (below_storeI (wr := v5) (y0 := .int .i64 m.en) (y1 := .int .i64 m.tm) (y2 := .int .i64 m.tr) (y3 := .int .i64 m.bm) (y4 := .int .i64 m.br) (y5 := .slice A3.sa m.sats.length A3.sc) (y6 := .slice A3.ca m.cus.length A3.cc) (y7 := .slice A3.ka m.cost.length A3.kc) (y8 := .slice A3.ta m.time.length A3.tc) HGga.out))
          have OS := Lib.hid (O5.out.storeI_ (y0 := .int .i64 m.en) (y1 := .int .i64 m.tm) (y2 := .int .i64 m.tr) (y3 := .int .i64 m.bm) (y4 := .int .i64 m.br) (y5 := .slice A3.sa m.sats.length A3.sc) (y6 := .slice A3.ca m.cus.length A3.cc) (y7 := .slice A3.ka m.cost.length A3.kc) (y8 := .slice A3.ta m.time.length A3.tc) P5.out)
          have RS := Lib.hid (R5.out.storeI_ (y0 := .int .i64 m.en) (y1 := .int .i64 m.tm) (y2 := .int .i64 m.tr) (y3 := .int .i64 m.bm) (y4 := .int .i64 m.br) (y5 := .slice A3.sa m.sats.length A3.sc) (y6 := .slice A3.ca m.cus.length A3.cc) (y7 := .slice A3.ka m.cost.length A3.kc) (y8 := .slice A3.ta m.time.length A3.tc) P5.out)
          refine wpAnyH_ready (rs := [6]) (by kernel_rfl) (by simp) ?_
          refine AllReadyH.cons rfl (fun K hK => ?_) (AllReadyH.nil)
          go_simp
          refine hK.out _ _ ?_ (fun hHeld => ?_)
          · exact HS9.out.cells
          clear hK K
          try simp only [Act.put, List.setIfInBounds_toArray, List.set_cons_zero, List.set_cons_succ, List.getElem_toArray, List.getElem_cons_zero, List.getElem_cons_succ]
          clear n0 n1 n2 n3 n4 n5 n6 n7 n8 nf
          obtain ⟨v9, hv9⟩ : ∃ v9, storeI v5 ga (.int .i64 m.en) (.int .i64 m.tm) (.int .i64 m.tr) (.int .i64 m.bm) (.int .i64 m.br) (.slice A3.sa m.sats.length A3.sc) (.slice A3.ca m.cus.length A3.cc) (.slice A3.ka m.cost.length A3.kc) (.slice A3.ta m.time.length A3.tc) = v9 := ⟨_, rfl⟩
          rw [hv9] at PS QS HS9 OS RS
          unfold storeI at hv9
          rw [hv9] at hHeld ⊢
          clear hv9
          obtain ⟨n0, n1, n2, n3, n4, n5, n6, n7, n8, nf⟩ := cells9 QS.out
          have QT := Lib.hid (storeI_blk (y0 := .int .i64 m.en) (y1 := .int .i64 m.tm) (y2 := .int .i64 m.tr) (y3 := .int .i64 m.bm) (y4 := .int .i64 m.br) (y5 := .slice A4.sa m.sats.length A4.sc) (y6 := .slice A4.ca m.cus.length A4.cc) (y7 := .slice A4.ka m.cost.length A4.kc) (y8 := .slice A4.ta m.time.length A4.tc) QS.out)
          have PT := Lib.hid ((storeI_other (y0 := .int .i64 m.en) (y1 := .int .i64 m.tm) (y2 := .int .i64 m.tr) (y3 := .int .i64 m.bm) (y4 := .int .i64 m.br) (y5 := .slice A4.sa m.sats.length A4.sc) (y6 := .slice A4.ca m.cus.length A4.cc) (y7 := .slice A4.ka m.cost.length A4.kc) (y8 := .slice A4.ta m.time.length A4.tc) HNE.out).trans PS.out)
          have HT9 := Lib.hid (HS9.out.mod (below_storeI (wr := v9) (y0 := .int .i64 m.en) (y1 := .int .i64 m.tm) (y2 := .int .i64 m.tr) (y3 := .int .i64 m.bm) (y4 := .int .i64 m.br) (y5 := .slice A4.sa m.sats.length A4.sc) (y6 := .slice A4.ca m.cus.length A4.cc) (y7 := .slice A4.ka m.cost.length A4.kc) (y8 := .slice A4.ta m.time.length A4.tc) HGgb.out))
          have OT := Lib.hid (OS.out.storeI_ (y0 := .int .i64 m.en) (y1 := .int .i64 m.tm) (y2 := .int .i64 m.tr) (y3 := .int .i64 m.bm) (y4 := .int .i64 m.br) (y5 := .slice A4.sa m.sats.length A4.sc) (y6 := .slice A4.ca m.cus.length A4.cc) (y7 := .slice A4.ka m.cost.length A4.kc) (y8 := .slice A4.ta m.time.length A4.tc) QS.out)
          have RT := Lib.hid (RS.out.storeI_ (y0 := .int .i64 m.en) (y1 := .int .i64 m.tm) (y2 := .int .i64 m.tr) (y3 := .int .i64 m.bm) (y4 := .int .i64 m.br) (y5 := .slice A4.sa m.sats.length A4.sc) (y6 := .slice A4.ca m.cus.length A4.cc) (y7 := .slice A4.ka m.cost.length A4.kc) (y8 := .slice A4.ta m.time.length A4.tc) QS.out)
          refine wpAnyH_ready (rs := [7]) (by kernel_rfl) (by simp) ?_
          refine AllReadyH.cons rfl (fun K hK => ?_) (AllReadyH.nil)
          go_simp
          refine hK.out _ _ ?_ (fun hHeld => ?_)
          · exact HT9.out.cells
          clear hK K
          try simp only [Act.put, List.setIfInBounds_toArray, List.set_cons_zero, List.set_cons_succ, List.getElem_toArray, List.getElem_cons_zero, List.getElem_cons_succ]
          refine wpAnyH_done (by kernel_rfl) ?_ _
          clear hHeld n0 n1 n2 n3 n4 n5 n6 n7 n8 nf
          go_wp2_with fail
          go_meet
          exact ⟨ga, gb, D0, A3, A4, _, C4, D4, VK4, VT4, _, _, rfl, rfl, ⟨HT9.out, PT.out, OT.out, HGga.out, HDG.out⟩, ⟨QT.out, RT.out, hn1, hn2.2, hn4.2⟩, HNE.out, HGgb.out, HBD.out⟩
        · go_simp
          have hb := below1 v3 (.cells #[.int .i64 0, .int .i64 0, .int .i64 0, .int .i64 0, .int .i64 0, .slice none 0 0, .slice none 0 0, .slice none 0 0, .slice none 0 0] 34)
          have H4 := Lib.hid (H3.out.later hb)
          have Q4 := Lib.hid (heap_alloc_new v3 (.cells #[.int .i64 0, .int .i64 0, .int .i64 0, .int .i64 0, .int .i64 0, .slice none 0 0, .slice none 0 0, .slice none 0 0, .slice none 0 0] 34))
          have O4 := Lib.hid (O3.out.later hb)
          have E4 := Lib.hid (Nat.le_trans E3.out hb.size)
          have R4 := Lib.hid (R3.out.later hb)
          refine hK.out _ _ ?_ (fun hHeld => ?_)
          · exact H4.out.cells
          clear hK K
          try simp only [Act.put, List.setIfInBounds_toArray, List.set_cons_zero, List.set_cons_succ, List.getElem_toArray, List.getElem_cons_zero, List.getElem_cons_succ]
          obtain ⟨gb, hgb⟩ : ∃ g, v3.heap.size = g := ⟨_, rfl⟩
          have HGgb : Hid (w.heap.size + 1 ≤ gb) := Lib.hid (by rw [← hgb]; exact H3.out.lt)
          obtain ⟨v4, hv4⟩ : ∃ W9, World.alloc v3 (.cells #[.int .i64 0, .int .i64 0, .int .i64 0, .int .i64 0, .int .i64 0, .slice none 0 0, .slice none 0 0, .slice none 0 0, .slice none 0 0] 34) = W9 := ⟨_, rfl⟩
          rw [hv4] at hHeld H4 Q4 O4 E4 R4 ⊢
          rw [hgb] at Q4 ⊢
          clear hgb hv4 hb
          refine wpAnyH_ready (rs := [4]) (by kernel_rfl) (by simp) ?_
          refine AllReadyH.cons rfl (fun K hK => ?_) (AllReadyH.nil)
          go_simp
          have hb := below1 v4 (.cells #[.int .i64 0, .int .i64 0, .int .i64 0, .int .i64 0, .int .i64 0, .slice none 0 0, .slice none 0 0, .slice none 0 0, .slice none 0 0] 34)
          have H5 := Lib.hid (H4.out.later hb)
          have P5 := Lib.hid (heap_alloc_new v4 (.cells #[.int .i64 0, .int .i64 0, .int .i64 0, .int .i64 0, .int .i64 0, .slice none 0 0, .slice none 0 0, .slice none 0 0, .slice none 0 0] 34))
          have Q5 := Lib.hid ((hb.block _ (Array.getElem?_eq_some_iff.1 Q4.out).1).trans Q4.out)
          have O5 := Lib.hid (O4.out.later hb)
          have E5 := Lib.hid (Nat.le_trans E4.out hb.size)
          have R5 := Lib.hid (R4.out.later hb)
          refine hK.out _ _ ?_ (fun hHeld => ?_)
          · exact H5.out.cells
          clear hK K
          try simp only [Act.put, List.setIfInBounds_toArray, List.set_cons_zero, List.set_cons_succ, List.getElem_toArray, List.getElem_cons_zero, List.getElem_cons_succ]
          obtain ⟨ga, hga⟩ : ∃ g, v4.heap.size = g := ⟨_, rfl⟩
          have HGga : Hid (w.heap.size + 1 ≤ ga) := Lib.hid (by rw [← hga]; exact H4.out.lt)
          have HNE : Hid (ga ≠ gb) := Lib.hid (by have := (Array.getElem?_eq_some_iff.1 Q4.out).1; omega)
          obtain ⟨v5, hv5⟩ : ∃ W9, World.alloc v4 (.cells #[.int .i64 0, .int .i64 0, .int .i64 0, .int .i64 0, .int .i64 0, .slice none 0 0, .slice none 0 0, .slice none 0 0, .slice none 0 0] 34) = W9 := ⟨_, rfl⟩
          rw [hv5] at hHeld H5 P5 Q5 O5 E5 R5 ⊢
          rw [hga] at P5 ⊢
          clear hga hv5 hb
          obtain ⟨n0, n1, n2, n3, n4, n5, n6, n7, n8, nf⟩ := cells9 P5.out
          have PS := Lib.hid (storeI_blk (y0 := .int .i64 m.en) (y1 := .int .i64 m.tm) (y2 := .int .i64 m.tr) (y3 := .int .i64 m.bm) (y4 := .int .i64 m.br) (y5 := .slice A3.sa m.sats.length A3.sc) (y6 := .slice A3.ca m.cus.length A3.cc) (y7 := .slice A3.ka m.cost.length A3.kc) (y8 := .slice A3.ta m.time.length A3.tc) P5.out)
          have QS := Lib.hid ((storeI_other (y0 := .int .i64 m.en) (y1 := .int .i64 m.tm) (y2 := .int .i64 m.tr) (y3 := .int .i64 m.bm) (y4 := .int .i64 m.br) (y5 := .slice A3.sa m.sats.length A3.sc) (y6 := .slice A3.ca m.cus.length A3.cc) (y7 := .slice A3.ka m.cost.length A3.kc) (y8 := .slice A3.ta m.time.length A3.tc) (Ne.symm HNE.out)).trans Q5.out)
          have HS9 := Lib.hid (H5.out.mod (below_storeI (wr := v5) (y0 := .int .i64 m.en) (y1 := .int .i64 m.tm) (y2 := .int .i64 m.tr) (y3 := .int .i64 m.bm) (y4 := .int .i64 m.br) (y5 := .slice A3.sa m.sats.length A3.sc) (y6 := .slice A3.ca m.cus.length A3.cc) (y7 := .slice A3.ka m.cost.length A3.kc) (y8 := .slice A3.ta m.time.length A3.tc) HGga.out))
          have OS := Lib.hid (O5.out.storeI_ (y0 := .int .i64 m.en) (y1 := .int .i64 m.tm) (y2 := .int .i64 m.tr) (y3 := .int .i64 m.bm) (y4 := .int .i64 m.br) (y5 := .slice A3.sa m.sats.length A3.sc) (y6 := .slice A3.ca m.cus.length A3.cc) (y7 := .slice A3.ka m.cost.length A3.kc) (y8 := .slice A3.ta m.time.length A3.tc) P5.out)
          have RS := Lib.hid (R5.out.storeI_ (y0 := .int .i64 m.en) (y1 := .int .i64 m.tm) (y2 := .int .i64 m.tr) (y3 := .int .i64 m.bm) (y4 := .int .i64 m.br) (y5 := .slice A3.sa m.sats.length A3.sc) (y6 := .slice A3.ca m.cus.length A3.cc) (y7 := .slice A3.ka m.cost.length A3.kc) (y8 := .slice A3.ta m.time.length A3.tc) P5.out)
          refine wpAnyH_ready (rs := [6]) (by kernel_rfl) (by simp) ?_
          refine AllReadyH.cons rfl (fun K hK => ?_) (AllReadyH.nil)
          go_simp
          refine hK.out _ _ ?_ (fun hHeld => ?_)
          · exact HS9.out.cells
          clear hK K
          try simp only [Act.put, List.setIfInBounds_toArray, List.set_cons_zero, List.set_cons_succ, List.getElem_toArray, List.getElem_cons_zero, List.getElem_cons_succ]
          clear n0 n1 n2 n3 n4 n5 n6 n7 n8 nf
          obtain ⟨v9, hv9⟩ : ∃ v9, storeI v5 ga (.int .i64 m.en) (.int .i64 m.tm) (.int .i64 m.tr) (.int .i64 m.bm) (.int .i64 m.br) (.slice A3.sa m.sats.length A3.sc) (.slice A3.ca m.cus.length A3.cc) (.slice A3.ka m.cost.length A3.kc) (.slice A3.ta m.time.length A3.tc) = v9 := ⟨_, rfl⟩
          rw [hv9] at PS QS HS9 OS RS
          unfold storeI at hv9
          rw [hv9] at hHeld ⊢
          clear hv9
          obtain ⟨n0, n1, n2, n3, n4, n5, n6, n7, n8, nf⟩ := cells9 QS.out
          have QT := Lib.hid (storeI_blk (y0 := .int .i64 m.en) (y1 := .int .i64 m.tm) (y2 := .int .i64 m.tr) (y3 := .int .i64 m.bm) (y4 := .int .i64 m.br) (y5 := .slice A4.sa m.sats.length A4.sc) (y6 := .slice A4.ca m.cus.length A4.cc) (y7 := .slice A4.ka m.cost.length A4.kc) (y8 := .slice A4.ta m.time.length A4.tc) QS.out)
          have PT := Lib.hid ((storeI_other (y0 := .int .i64 m.en) (y1 := .int .i64 m.tm) (y2 := .int .i64 m.tr) (y3 := .int .i64 m.bm) (y4 := .int .i64 m.br) (y5 := .slice A4.sa m.sats.length A4.sc) (y6 := .slice A4.ca m.cus.length A4.cc) (y7 := .slice A4.ka m.cost.length A4.kc) (y8 := .slice A4.ta m.time.length A4.tc) HNE.out).trans PS.out)
          have HT9 := Lib.hid (HS9.out.mod (below_storeI (wr := v9) (y0 := .int .i64 m.en) (y1 := .int .i64 m.tm) (y2 := .int .i64 m.tr) (y3 := .int .i64 m.bm) (y4 := .int .i64 m.br) (y5 := .slice A4.sa m.sats.length A4.sc) (y6 := .slice A4.ca m.cus.length A4.cc) (y7 := .slice A4.ka m.cost.length A4.kc) (y8 := .slice A4.ta m.time.length A4.tc) HGgb.out))
          have OT := Lib.hid (OS.out.storeI_ (y0 := .int .i64 m.en) (y1 := .int .i64 m.tm) (y2 := .int .i64 m.tr) (y3 := .int .i64 m.bm) (y4 := .int .i64 m.br) (y5 := .slice A4.sa m.sats.length A4.sc) (y6 := .slice A4.ca m.cus.length A4.cc) (y7 := .slice A4.ka m.cost.length A4.kc) (y8 := .slice A4.ta m.time.length A4.tc) QS.out)
          have RT := Lib.hid (RS.out.storeI_ (y0 := .int .i64 m.en) (y1 := .int .i64 m.tm) (y2 := .int .i64 m.tr) (y3 := .int .i64 m.bm) (y4 := .int .i64 m.br) (y5 := .slice A4.sa m.sats.length A4.sc) (y6 := .slice A4.ca m.cus.length A4.cc) (y7 := .slice A4.ka m.cost.length A4.kc) (y8 := .slice A4.ta m.time.length A4.tc) QS.out)
          refine wpAnyH_ready (rs := [7]) (by kernel_rfl) (by simp) ?_
          refine AllReadyH.cons rfl (fun K hK => ?_) (AllReadyH.nil)
          go_simp
          refine hK.out _ _ ?_ (fun hHeld => ?_)
          · exact HT9.out.cells
          clear hK K
          try simp only [Act.put, List.setIfInBounds_toArray, List.set_cons_zero, List.set_cons_succ, List.getElem_toArray, List.getElem_cons_zero, List.getElem_cons_succ]
          refine wpAnyH_done (by kernel_rfl) ?_ _
          clear hHeld n0 n1 n2 n3 n4 n5 n6 n7 n8 nf
          go_wp2_with fail
          go_meet
          exact ⟨ga, gb, D0, A3, A4, _, C4, D4, VK4, VT4, _, _, rfl, rfl, ⟨HT9.out, PT.out, OT.out, HGga.out, HDG.out⟩, ⟨QT.out, RT.out, hn1, hn2.2, hn4.2⟩, HNE.out, HGgb.out, HBD.out⟩
      · go_simp
        have hb := below1 v2 (.cells #[.int .i64 0, .int .i64 0, .int .i64 0, .int .i64 0, .int .i64 0, .slice none 0 0, .slice none 0 0, .slice none 0 0, .slice none 0 0] 34)
        have H3 := Lib.hid (H2.out.later hb)
        have P3 := Lib.hid (heap_alloc_new v2 (.cells #[.int .i64 0, .int .i64 0, .int .i64 0, .int .i64 0, .int .i64 0, .slice none 0 0, .slice none 0 0, .slice none 0 0, .slice none 0 0] 34))
        have O3 := Lib.hid (O2.out.later hb)
        have E3 := Lib.hid (Nat.le_trans E2.out hb.size)
        refine hK.out _ _ ?_ (fun hHeld => ?_)
        · exact H3.out.cells
        clear hK K
        try simp only [Act.put, List.setIfInBounds_toArray, List.set_cons_zero, List.set_cons_succ, List.getElem_toArray, List.getElem_cons_zero, List.getElem_cons_succ]
        obtain ⟨ga, hga⟩ : ∃ g, v2.heap.size = g := ⟨_, rfl⟩
        have HGga : Hid (w.heap.size + 1 ≤ ga) := Lib.hid (by rw [← hga]; exact H2.out.lt)
        obtain ⟨v3, hv3⟩ : ∃ W9, World.alloc v2 (.cells #[.int .i64 0, .int .i64 0, .int .i64 0, .int .i64 0, .int .i64 0, .slice none 0 0, .slice none 0 0, .slice none 0 0, .slice none 0 0] 34) = W9 := ⟨_, rfl⟩
        rw [hv3] at hHeld H3 P3 O3 E3 ⊢
        rw [hga] at P3 ⊢
        clear hga hv3 hb
        refine wpAnyH_ready (rs := [3, 5]) (by kernel_rfl) (by simp) ?_
        refine AllReadyH.cons rfl (fun K hK => ?_) (AllReadyH.cons rfl (fun K hK => ?_) (AllReadyH.nil))
        · go_simp
          refine (HMK.out _ (H3.out.here HSM.out)).mono ?_
          rintro e v4 ⟨⟨A4, rfl, C4, D4, VK4, VT4, hown⟩, hb⟩
          have R4 := Lib.hid hown
          have HBD : Hid (D0 ≤ v3.heap.size + 3) := Lib.hid (by have := E3.out; omega)
          have H4 := Lib.hid (H3.out.later hb)
          have P4 := Lib.hid ((hb.block _ (Array.getElem?_eq_some_iff.1 P3.out).1).trans P3.out)
          have O4 := Lib.hid (O3.out.later hb)
          have E4 := Lib.hid (Nat.le_trans E3.out hb.size)
          clear hown hb
          refine hK.out _ _ ?_ (fun hHeld => ?_)
          · exact H4.out.cells
          clear hK K
          try simp only [Act.put, List.setIfInBounds_toArray, List.set_cons_zero, List.set_cons_succ, List.getElem_toArray, List.getElem_cons_zero, List.getElem_cons_succ]
          refine wpAnyH_ready (rs := [5]) (by kernel_rfl) (by simp) ?_
          refine AllReadyH.cons rfl (fun K hK => ?_) (AllReadyH.nil)
          go_simp
          have hb := below1 v4 (.cells #[.int .i64 0, .int .i64 0, .int .i64 0, .int .i64 0, .int .i64 0, .slice none 0 0, .slice none 0 0, .slice none 0 0, .slice none 0 0] 34)
          have H5 := Lib.hid (H4.out.later hb)
          have Q5 := Lib.hid (heap_alloc_new v4 (.cells #[.int .i64 0, .int .i64 0, .int .i64 0, .int .i64 0, .int .i64 0, .slice none 0 0, .slice none 0 0, .slice none 0 0, .slice none 0 0] 34))
          have P5 := Lib.hid ((hb.block _ (Array.getElem?_eq_some_iff.1 P4.out).1).trans P4.out)
          have O5 := Lib.hid (O4.out.later hb)
          have E5 := Lib.hid (Nat.le_trans E4.out hb.size)
          have R5 := Lib.hid (R4.out.later hb)
          refine hK.out _ _ ?_ (fun hHeld => ?_)
          · exact H5.out.cells
          clear hK K
          try simp only [Act.put, List.setIfInBounds_toArray, List.set_cons_zero, List.set_cons_succ, List.getElem_toArray, List.getElem_cons_zero, List.getElem_cons_succ]
          obtain ⟨gb, hgb⟩ : ∃ g, v4.heap.size = g := ⟨_, rfl⟩
          have HGgb : Hid (w.heap.size + 1 ≤ gb) := Lib.hid (by rw [← hgb]; exact H4.out.lt)
          have HNE : Hid (ga ≠ gb) := Lib.hid (by have := (Array.getElem?_eq_some_iff.1 P4.out).1; omega)
          obtain ⟨v5, hv5⟩ : ∃ W9, World.alloc v4 (.cells #[.int .i64 0, .int .i64 0, .int .i64 0, .int .i64 0, .int .i64 0, .slice none 0 0, .slice none 0 0, .slice none 0 0, .slice none 0 0] 34) = W9 := ⟨_, rfl⟩
          rw [hv5] at hHeld H5 Q5 P5 O5 E5 R5 ⊢
          rw [hgb] at Q5 ⊢
          clear hgb hv5 hb
          obtain ⟨n0, n1, n2, n3, n4, n5, n6, n7, n8, nf⟩ := cells9 P5.out
          have PS := Lib.hid (storeI_blk (y0 := .int .i64 m.en) (y1 := .int .i64 m.tm) (y2 := .int .i64 m.tr) (y3 := .int .i64 m.bm) (y4 := .int .i64 m.br) (y5 := .slice A3.sa m.sats.length A3.sc) (y6 := .slice A3.ca m.cus.length A3.cc) (y7 := .slice A3.ka m.cost.length A3.kc) (y8 := .slice A3.ta m.time.length A3.tc) P5.out)
          have QS := Lib.hid ((storeI_other (y0 := .int .i64 m.en) (y1 := .int .i64 m.tm) (y2 := .int .i64 m.tr) (y3 := .int .i64 m.bm) (y4 := .int .i64 m.br) (y5 := .slice A3.sa m.sats.length A3.sc) (y6 := .slice A3.ca m.cus.length A3.cc) (y7 := .slice A3.ka m.cost.length A3.kc) (y8 := .slice A3.ta m.time.length A3.tc) (Ne.symm HNE.out)).trans Q5.out)
          have HS9 := Lib.hid (H5.out.mod (below_storeI (wr := v5) (y0 := .int .i64 m.en) (y1 := .int .i64 m.tm) (y2 := .int .i64 m.tr) (y3 := .int .i64 m.bm) (y4 := .int .i64 m.br) (y5 := .slice A3.sa m.sats.length A3.sc) (y6 := .slice A3.ca m.cus.length A3.cc) (y7 := .slice A3.ka m.cost.length A3.kc) (y8 := .slice A3.ta m.time.length A3.tc) HGga.out))
          have OS := Lib.hid (O5.out.storeI_ (y0 := .int .i64 m.en) (y1 := .int .i64 m.tm) (y2 := .int .i64 m.tr) (y3 := .int .i64 m.bm) (y4 := .int .i64 m.br) (y5 := .slice A3.sa m.sats.length A3.sc) (y6 := .slice A3.ca m.cus.length A3.cc) (y7 := .slice A3.ka m.cost.length A3.kc) (y8 := .slice A3.ta m.time.length A3.tc) P5.out)
          have RS := Lib.hid (R5.out.storeI_ (y0 := .int .i64 m.en) (y1 := .int .i64 m.tm) (y2 := .int .i64 m.tr) (y3 := .int .i64 m.bm) (y4 := .int .i64 m.br) (y5 := .slice A3.sa m.sats.length A3.sc) (y6 := .slice A3.ca m.cus.length A3.cc) (y7 := .slice A3.ka m.cost.length A3.kc) (y8 := .slice A3.ta m.time.length A3.tc) P5.out)
          refine wpAnyH_ready (rs := [6]) (by kernel_rfl) (by simp) ?_
          refine AllReadyH.cons rfl (fun K hK => ?_) (AllReadyH.nil)
          go_simp
          refine hK.out _ _ ?_ (fun hHeld => ?_)
          · exact HS9.out.cells
          clear hK K
          try simp only [Act.put, List.setIfInBounds_toArray, List.set_cons_zero, List.set_cons_succ, List.getElem_toArray, List.getElem_cons_zero, List.getElem_cons_succ]
          clear n0 n1 n2 n3 n4 n5 n6 n7 n8 nf
          obtain ⟨v9, hv9⟩ : ∃ v9, storeI v5 ga (.int .i64 m.en) (.int .i64 m.tm) (.int .i64 m.tr) (.int .i64 m.bm) (.int .i64 m.br) (.slice A3.sa m.sats.length A3.sc) (.slice A3.ca m.cus.length A3.cc) (.slice A3.ka m.cost.length A3.kc) (.slice A3.ta m.time.length A3.tc) = v9 := ⟨_, rfl⟩
          rw [hv9] at PS QS HS9 OS RS
          unfold storeI at hv9
          rw [hv9] at hHeld ⊢
          clear hv9
          obtain ⟨n0, n1, n2, n3, n4, n5, n6, n7, n8, nf⟩ := cells9 QS.out
          have QT := Lib.hid (storeI_blk (y0 := .int .i64 m.en) (y1 := .int .i64 m.tm) (y2 := .int .i64 m.tr) (y3 := .int .i64 m.bm) (y4 := .int .i64 m.br) (y5 := .slice A4.sa m.sats.length A4.sc) (y6 := .slice A4.ca m.cus.length A4.cc) (y7 := .slice A4.ka m.cost.length A4.kc) (y8 := .slice A4.ta m.time.length A4.tc) QS.out)
          have PT := Lib.hid ((storeI_other (y0 := .int .i64 m.en) (y1 := .int .i64 m.tm) (y2 := .int .i64 m.tr) (y3 := .int .i64 m.bm) (y4 := .int .i64 m.br) (y5 := .slice A4.sa m.sats.length A4.sc) (y6 := .slice A4.ca m.cus.length A4.cc) (y7 := .slice A4.ka m.cost.length A4.kc) (y8 := .slice A4.ta m.time.length A4.tc) HNE.out).trans PS.out)
          have HT9 := Lib.hid (HS9.out.mod (below_storeI (wr := v9) (y0 := .int .i64 m.en) (y1 := .int .i64 m.tm) (y2 := .int .i64 m.tr) (y3 := .int .i64 m.bm) (y4 := .int .i64 m.br) (y5 := .slice A4.sa m.sats.length A4.sc) (y6 := .slice A4.ca m.cus.length A4.cc) (y7 := .slice A4.ka m.cost.length A4.kc) (y8 := .slice A4.ta m.time.length A4.tc) HGgb.out))
          have OT := Lib.hid (OS.out.storeI_ (y0 := .int .i64 m.en) (y1 := .int .i64 m.tm) (y2 := .int .i64 m.tr) (y3 := .int .i64 m.bm) (y4 := .int .i64 m.br) (y5 := .slice A4.sa m.sats.length A4.sc) (y6 := .slice A4.ca m.cus.length A4.cc) (y7 := .slice A4.ka m.cost.length A4.kc) (y8 := .slice A4.ta m.time.length A4.tc) QS.out)
          have RT := Lib.hid (RS.out.storeI_ (y0 := .int .i64 m.en) (y1 := .int .i64 m.tm) (y2 := .int .i64 m.tr) (y3 := .int .i64 m.bm) (y4 := .int .i64 m.br) (y5 := .slice A4.sa m.sats.length A4.sc) (y6 := .slice A4.ca m.cus.length A4.cc) (y7 := .slice A4.ka m.cost.length A4.kc) (y8 := .slice A4.ta m.time.length A4.tc) QS.out)
          refine wpAnyH_ready (rs := [7]) (by kernel_rfl) (by simp) ?_
          refine AllReadyH.cons rfl (fun K hK => ?_) (AllReadyH.nil)
          go_simp
          refine hK.out _ _ ?_ (fun hHeld => ?_)
          · exact HT9.out.cells
          clear hK K
          try simp only [Act.put, List.setIfInBounds_toArray, List.set_cons_zero, List.set_cons_succ, List.getElem_toArray, List.getElem_cons_zero, List.getElem_cons_succ]
          refine wpAnyH_done (by kernel_rfl) ?_ _
          clear hHeld n0 n1 n2 n3 n4 n5 n6 n7 n8 nf
          go_wp2_with fail
          go_meet
          exact ⟨ga, gb, D0, A3, A4, _, C4, D4, VK4, VT4, _, _, rfl, rfl, ⟨HT9.out, PT.out, OT.out, HGga.out, HDG.out⟩, ⟨QT.out, RT.out, hn1, hn2.2, hn4.2⟩, HNE.out, HGgb.out, HBD.out⟩
        · go_simp
          have hb := below1 v3 (.cells #[.int .i64 0, .int .i64 0, .int .i64 0, .int .i64 0, .int .i64 0, .slice none 0 0, .slice none 0 0, .slice none 0 0, .slice none 0 0] 34)
          have H4 := Lib.hid (H3.out.later hb)
          have Q4 := Lib.hid (heap_alloc_new v3 (.cells #[.int .i64 0, .int .i64 0, .int .i64 0, .int .i64 0, .int .i64 0, .slice none 0 0, .slice none 0 0, .slice none 0 0, .slice none 0 0] 34))
          have P4 := Lib.hid ((hb.block _ (Array.getElem?_eq_some_iff.1 P3.out).1).trans P3.out)
          have O4 := Lib.hid (O3.out.later hb)
          have E4 := Lib.hid (Nat.le_trans E3.out hb.size)
          refine hK.out _ _ ?_ (fun hHeld => ?_)
          · exact H4.out.cells
          clear hK K
          try simp only [Act.put, List.setIfInBounds_toArray, List.set_cons_zero, List.set_cons_succ, List.getElem_toArray, List.getElem_cons_zero, List.getElem_cons_succ]
          obtain ⟨gb, hgb⟩ : ∃ g, v3.heap.size = g := ⟨_, rfl⟩
          have HGgb : Hid (w.heap.size + 1 ≤ gb) := Lib.hid (by rw [← hgb]; exact H3.out.lt)
          have HNE : Hid (ga ≠ gb) := Lib.hid (by have := (Array.getElem?_eq_some_iff.1 P3.out).1; omega)
          obtain ⟨v4, hv4⟩ : ∃ W9, World.alloc v3 (.cells #[.int .i64 0, .int .i64 0, .int .i64 0, .int .i64 0, .int .i64 0, .slice none 0 0, .slice none 0 0, .slice none 0 0, .slice none 0 0] 34) = W9 := ⟨_, rfl⟩
          rw [hv4] at hHeld H4 Q4 P4 O4 E4 ⊢
          rw [hgb] at Q4 ⊢
          clear hgb hv4 hb
          refine wpAnyH_ready (rs := [3]) (by kernel_rfl) (by simp) ?_
          refine AllReadyH.cons rfl (fun K hK => ?_) (AllReadyH.nil)
          go_simp
          refine (HMK.out _ (H4.out.here HSM.out)).mono ?_
          rintro e v5 ⟨⟨A4, rfl, C4, D4, VK4, VT4, hown⟩, hb⟩
          have R5 := Lib.hid hown
          have HBD : Hid (D0 ≤ v4.heap.size + 3) := Lib.hid (by have := E4.out; omega)
          have H5 := Lib.hid (H4.out.later hb)
          have P5 := Lib.hid ((hb.block _ (Array.getElem?_eq_some_iff.1 P4.out).1).trans P4.out)
          have Q5 := Lib.hid ((hb.block _ (Array.getElem?_eq_some_iff.1 Q4.out).1).trans Q4.out)
          have O5 := Lib.hid (O4.out.later hb)
          have E5 := Lib.hid (Nat.le_trans E4.out hb.size)
          clear hown hb
          refine hK.out _ _ ?_ (fun hHeld => ?_)
          · exact H5.out.cells
          clear hK K
          try simp only [Act.put, List.setIfInBounds_toArray, List.set_cons_zero, List.set_cons_succ, List.getElem_toArray, List.getElem_cons_zero, List.getElem_cons_succ]
          obtain ⟨n0, n1, n2, n3, n4, n5, n6, n7, n8, nf⟩ := cells9 P5.out
          have PS := Lib.hid (storeI_blk (y0 := .int .i64 m.en) (y1 := .int .i64 m.tm) (y2 := .int .i64 m.tr) (y3 := .int .i64 m.bm) (y4 := .int .i64 m.br) (y5 := .slice A3.sa m.sats.length A3.sc) (y6 := .slice A3.ca m.cus.length A3.cc) (y7 := .slice A3.ka m.cost.length A3.kc) (y8 := .slice A3.ta m.time.length A3.tc) P5.out)
          have QS := Lib.hid ((storeI_other (y0 := .int .i64 m.en) (y1 := .int .i64 m.tm) (y2 := .int .i64 m.tr) (y3 := .int .i64 m.bm) (y4 := .int .i64 m.br) (y5 := .slice A3.sa m.sats.length A3.sc) (y6 := .slice A3.ca m.cus.length A3.cc) (y7 := .slice A3.ka m.cost.length A3.kc) (y8 := .slice A3.ta m.time.length A3.tc) (Ne.symm HNE.out)).trans Q5.out)
          have HS9 := Lib.hid (H5.out.mod (below_storeI (wr := v5) (y0 := .int .i64 m.en) (y1 := .int .i64 m.tm) (y2 := .int .i64 m.tr) (y3 := .int .i64 m.bm) (y4 := .int .i64 m.br) (y5 := .slice A3.sa m.sats.length A3.sc) (y6 := .slice A3.ca m.cus.length A3.cc) (y7 := .slice A3.ka m.cost.length A3.kc) (y8 := .slice A3.ta m.time.length A3.tc) HGga.out))
          have OS := Lib.hid (O5.out.storeI_ (y0 := .int .i64 m.en) (y1 := .int .i64 m.tm) (y2 := .int .i64 m.tr) (y3 := .int .i64 m.bm) (y4 := .int .i64 m.br) (y5 := .slice A3.sa m.sats.length A3.sc) (y6 := .slice A3.ca m.cus.length A3.cc) (y7 := .slice A3.ka m.cost.length A3.kc) (y8 := .slice A3.ta m.time.length A3.tc) P5.out)
          have RS := Lib.hid (R5.out.storeI_ (y0 := .int .i64 m.en) (y1 := .int .i64 m.tm) (y2 := .int .i64 m.tr) (y3 := .int .i64 m.bm) (y4 := .int .i64 m.br) (y5 := .slice A3.sa m.sats.length A3.sc) (y6 := .slice A3.ca m.cus.length A3.cc) (y7 := .slice A3.ka m.cost.length A3.kc) (y8 := .slice A3.ta m.time.length A3.tc) P5.out)
          refine wpAnyH_ready (rs := [6]) (by kernel_rfl) (by simp) ?_
          refine AllReadyH.cons rfl (fun K hK => ?_) (AllReadyH.nil)
          go_simp
          refine hK.out _ _ ?_ (fun hHeld => ?_)
          · exact HS9.out.cells
          clear hK K
          try simp only [Act.put, List.setIfInBounds_toArray, List.set_cons_zero, List.set_cons_succ, List.getElem_toArray, List.getElem_cons_zero, List.getElem_cons_succ]
          clear n0 n1 n2 n3 n4 n5 n6 n7 n8 nf
          obtain ⟨v9, hv9⟩ : ∃ v9, storeI v5 ga (.int .i64 m.en) (.int .i64 m.tm) (.int .i64 m.tr) (.int .i64 m.bm) (.int .i64 m.br) (.slice A3.sa m.sats.length A3.sc) (.slice A3.ca m.cus.length A3.cc) (.slice A3.ka m.cost.length A3.kc) (.slice A3.ta m.time.length A3.tc) = v9 := ⟨_, rfl⟩
          rw [hv9] at PS QS HS9 OS RS
          unfold storeI at hv9
          rw [hv9] at hHeld ⊢
          clear hv9
          obtain ⟨n0, n1, n2, n3, n4, n5, n6, n7, n8, nf⟩ := cells9 QS.out
          have QT := Lib.hid (storeI_blk (y0 := .int .i64 m.en) (y1 := .int .i64 m.tm) (y2 := .int .i64 m.tr) (y3 := .int .i64 m.bm) (y4 := .int .i64 m.br) (y5 := .slice A4.sa m.sats.length A4.sc) (y6 := .slice A4.ca m.cus.length A4.cc) (y7 := .slice A4.ka m.cost.length A4.kc) (y8 := .slice A4.ta m.time.length A4.tc) QS.out)
          have PT := Lib.hid ((storeI_other (y0 := .int .i64 m.en) (y1 := .int .i64 m.tm) (y2 := .int .i64 m.tr) (y3 := .int .i64 m.bm) (y4 := .int .i64 m.br) (y5 := .slice A4.sa m.sats.length A4.sc) (y6 := .slice A4.ca m.cus.length A4.cc) (y7 := .slice A4.ka m.cost.length A4.kc) (y8 := .slice A4.ta m.time.length A4.tc) HNE.out).trans PS.out)
          have HT9 := Lib.hid (HS9.out.mod (below_storeI (wr := v9) (y0 := .int .i64 m.en) (y1 := .int .i64 m.tm) (y2 := .int .i64 m.tr) (y3 := .int .i64 m.bm) (y4 := .int .i64 m.br) (y5 := .slice A4.sa m.sats.length A4.sc) (y6 := .slice A4.ca m.cus.length A4.cc) (y7 := .slice A4.ka m.cost.length A4.kc) (y8 := .slice A4.ta m.time.length A4.tc) HGgb.out))
          have OT := Lib.hid (OS.out.storeI_ (y0 := .int .i64 m.en) (y1 := .int .i64 m.tm) (y2 := .int .i64 m.tr) (y3 := .int .i64 m.bm) (y4 := .int .i64 m.br) (y5 := .slice A4.sa m.sats.length A4.sc) (y6 := .slice A4.ca m.cus.length A4.cc) (y7 := .slice A4.ka m.cost.length A4.kc) (y8 := .slice A4.ta m.time.length A4.tc) QS.out)
          have RT := Lib.hid (RS.out.storeI_ (y0 := .int .i64 m.en) (y1 := .int .i64 m.tm) (y2 := .int .i64 m.tr) (y3 := .int .i64 m.bm) (y4 := .int .i64 m.br) (y5 := .slice A4.sa m.sats.length A4.sc) (y6 := .slice A4.ca m.cus.length A4.cc) (y7 := .slice A4.ka m.cost.length A4.kc) (y8 := .slice A4.ta m.time.length A4.tc) QS.out)
          refine wpAnyH_ready (rs := [7]) (by kernel_rfl) (by simp) ?_
          refine AllReadyH.cons rfl (fun K hK => ?_) (AllReadyH.nil)
          go_simp
          refine hK.out _ _ ?_ (fun hHeld => ?_)
          · exact HT9.out.cells
          clear hK K
          try simp only [Act.put, List.setIfInBounds_toArray, List.set_cons_zero, List.set_cons_succ, List.getElem_toArray, List.getElem_cons_zero, List.getElem_cons_succ]
          refine wpAnyH_done (by kernel_rfl) ?_ _
          clear hHeld n0 n1 n2 n3 n4 n5 n6 n7 n8 nf
          go_wp2_with fail
          go_meet
          exact ⟨ga, gb, D0, A3, A4, _, C4, D4, VK4, VT4, _, _, rfl, rfl, ⟨HT9.out, PT.out, OT.out, HGga.out, HDG.out⟩, ⟨QT.out, RT.out, hn1, hn2.2, hn4.2⟩, HNE.out, HGgb.out, HBD.out⟩
      · go_simp
        have hb := below1 v2 (.cells #[.int .i64 0, .int .i64 0, .int .i64 0, .int .i64 0, .int .i64 0, .slice none 0 0, .slice none 0 0, .slice none 0 0, .slice none 0 0] 34)
        have H3 := Lib.hid (H2.out.later hb)
        have Q3 := Lib.hid (heap_alloc_new v2 (.cells #[.int .i64 0, .int .i64 0, .int .i64 0, .int .i64 0, .int .i64 0, .slice none 0 0, .slice none 0 0, .slice none 0 0, .slice none 0 0] 34))
        have O3 := Lib.hid (O2.out.later hb)
        have E3 := Lib.hid (Nat.le_trans E2.out hb.size)
        refine hK.out _ _ ?_ (fun hHeld => ?_)
        · exact H3.out.cells
        clear hK K
        try simp only [Act.put, List.setIfInBounds_toArray, List.set_cons_zero, List.set_cons_succ, List.getElem_toArray, List.getElem_cons_zero, List.getElem_cons_succ]
        obtain ⟨gb, hgb⟩ : ∃ g, v2.heap.size = g := ⟨_, rfl⟩
        have HGgb : Hid (w.heap.size + 1 ≤ gb) := Lib.hid (by rw [← hgb]; exact H2.out.lt)
        obtain ⟨v3, hv3⟩ : ∃ W9, World.alloc v2 (.cells #[.int .i64 0, .int .i64 0, .int .i64 0, .int .i64 0, .int .i64 0, .slice none 0 0, .slice none 0 0, .slice none 0 0, .slice none 0 0] 34) = W9 := ⟨_, rfl⟩
        rw [hv3] at hHeld H3 Q3 O3 E3 ⊢
        rw [hgb] at Q3 ⊢
        clear hgb hv3 hb
        refine wpAnyH_ready (rs := [3, 4]) (by kernel_rfl) (by simp) ?_
        refine AllReadyH.cons rfl (fun K hK => ?_) (AllReadyH.cons rfl (fun K hK => ?_) (AllReadyH.nil))
        · go_simp
          refine (HMK.out _ (H3.out.here HSM.out)).mono ?_
          rintro e v4 ⟨⟨A4, rfl, C4, D4, VK4, VT4, hown⟩, hb⟩
          have R4 := Lib.hid hown
          have HBD : Hid (D0 ≤ v3.heap.size + 3) := Lib.hid (by have := E3.out; omega)
          have H4 := Lib.hid (H3.out.later hb)
          have Q4 := Lib.hid ((hb.block _ (Array.getElem?_eq_some_iff.1 Q3.out).1).trans Q3.out)
          have O4 := Lib.hid (O3.out.later hb)
          have E4 := Lib.hid (Nat.le_trans E3.out hb.size)
          clear hown hb
          refine hK.out _ _ ?_ (fun hHeld => ?_)
          · exact H4.out.cells
          clear hK K
          try simp only [Act.put, List.setIfInBounds_toArray, List.set_cons_zero, List.set_cons_succ, List.getElem_toArray, List.getElem_cons_zero, List.getElem_cons_succ]
          refine wpAnyH_ready (rs := [4]) (by kernel_rfl) (by simp) ?_
          refine AllReadyH.cons rfl (fun K hK => ?_) (AllReadyH.nil)
          go_simp
          have hb := below1 v4 (.cells #[.int .i64 0, .int .i64 0, .int .i64 0, .int .i64 0, .int .i64 0, .slice none 0 0, .slice none 0 0, .slice none 0 0, .slice none 0 0] 34)
          have H5 := Lib.hid (H4.out.later hb)
          have P5 := Lib.hid (heap_alloc_new v4 (.cells #[.int .i64 0, .int .i64 0, .int .i64 0, .int .i64 0, .int .i64 0, .slice none 0 0, .slice none 0 0, .slice none 0 0, .slice none 0 0] 34))
          have Q5 := Lib.hid ((hb.block _ (Array.getElem?_eq_some_iff.1 Q4.out).1).trans Q4.out)
          have O5 := Lib.hid (O4.out.later hb)
          have E5 := Lib.hid (Nat.le_trans E4.out hb.size)
          have R5 := Lib.hid (R4.out.later hb)
          refine hK.out _ _ ?_ (fun hHeld => ?_)
          · exact H5.out.cells
          clear hK K
          try simp only [Act.put, List.setIfInBounds_toArray, List.set_cons_zero, List.set_cons_succ, List.getElem_toArray, List.getElem_cons_zero, List.getElem_cons_succ]
          obtain ⟨ga, hga⟩ : ∃ g, v4.heap.size = g := ⟨_, rfl⟩
          have HGga : Hid (w.heap.size + 1 ≤ ga) := Lib.hid (by rw [← hga]; exact H4.out.lt)
          have HNE : Hid (ga ≠ gb) := Lib.hid (by have := (Array.getElem?_eq_some_iff.1 Q4.out).1; omega)
          obtain ⟨v5, hv5⟩ : ∃ W9, World.alloc v4 (.cells #[.int .i64 0, .int .i64 0, .int .i64 0, .int .i64 0, .int .i64 0, .slice none 0 0, .slice none 0 0, .slice none 0 0, .slice none 0 0] 34) = W9 := ⟨_, rfl⟩
          rw [hv5] at hHeld H5 P5 Q5 O5 E5 R5 ⊢
          rw [hga] at P5 ⊢
          clear hga hv5 hb
          obtain ⟨n0, n1, n2, n3, n4, n5, n6, n7, n8, nf⟩ := cells9 P5.out
          have PS := Lib.hid (storeI_blk (y0 := .int .i64 m.en) (y1 := .int .i64 m.tm) (y2 := .int .i64 m.tr) (y3 := .int .i64 m.bm) (y4 := .int .i64 m.br) (y5 := .slice A3.sa m.sats.length A3.sc) (y6 := .slice A3.ca m.cus.length A3.cc) (y7 := .slice A3.ka m.cost.length A3.kc) (y8 := .slice A3.ta m.time.length A3.tc) P5.out)
          have QS := Lib.hid ((storeI_other (y0 := .int .i64 m.en) (y1 := .int .i64 m.tm) (y2 := .int .i64 m.tr) (y3 := .int .i64 m.bm) (y4 := .int .i64 m.br) (y5 := .slice A3.sa m.sats.length A3.sc) (y6 := .slice A3.ca m.cus.length A3.cc) (y7 := .slice A3.ka m.cost.length A3.kc) (y8 := .slice A3.ta m.time.length A3.tc) (Ne.symm HNE.out)).trans Q5.out)
          have HS9 := Lib.hid (H5.out.mod (below_storeI (wr := v5) (y0 := .int .i64 m.en) (y1 := .int .i64 m.tm) (y2 := .int .i64 m.tr) (y3 := .int .i64 m.bm) (y4 := .int .i64 m.br) (y5 := .slice A3.sa m.sats.length A3.sc) (y6 := .slice A3.ca m.cus.length A3.cc) (y7 := .slice A3.ka m.cost.length A3.kc) (y8 := .slice A3.ta m.time.length A3.tc) HGga.out))
          have OS := Lib.hid (O5.out.storeI_ (y0 := .int .i64 m.en) (y1 := .int .i64 m.tm) (y2 := .int .i64 m.tr) (y3 := .int .i64 m.bm) (y4 := .int .i64 m.br) (y5 := .slice A3.sa m.sats.length A3.sc) (y6 := .slice A3.ca m.cus.length A3.cc) (y7 := .slice A3.ka m.cost.length A3.kc) (y8 := .slice A3.ta m.time.length A3.tc) P5.out)
          have RS := Lib.hid (R5.out.storeI_ (y0 := .int .i64 m.en) (y1 := .int .i64 m.tm) (y2 := .int .i64 m.tr) (y3 := .int .i64 m.bm) (y4 := .int .i64 m.br) (y5 := .slice A3.sa m.sats.length A3.sc) (y6 := .slice A3.ca m.cus.length A3.cc) (y7 := .slice A3.ka m.cost.length A3.kc) (y8 := .slice A3.ta m.time.length A3.tc) P5.out)
          refine wpAnyH_ready (rs := [6]) (by kernel_rfl) (by simp) ?_
          refine AllReadyH.cons rfl (fun K hK => ?_) (AllReadyH.nil)
          go_simp
          refine hK.out _ _ ?_ (fun hHeld => ?_)
          · exact HS9.out.cells
          clear hK K
          try simp only [Act.put, List.setIfInBounds_toArray, List.set_cons_zero, List.set_cons_succ, List.getElem_toArray, List.getElem_cons_zero, List.getElem_cons_succ]
          clear n0 n1 n2 n3 n4 n5 n6 n7 n8 nf
          obtain ⟨v9, hv9⟩ : ∃ v9, storeI v5 ga (.int .i64 m.en) (.int .i64 m.tm) (.int .i64 m.tr) (.int .i64 m.bm) (.int .i64 m.br) (.slice A3.sa m.sats.length A3.sc) (.slice A3.ca m.cus.length A3.cc) (.slice A3.ka m.cost.length A3.kc) (.slice A3.ta m.time.length A3.tc) = v9 := ⟨_, rfl⟩
          rw [hv9] at PS QS HS9 OS RS
          unfold storeI at hv9
          rw [hv9] at hHeld ⊢
          clear hv9
          obtain ⟨n0, n1, n2, n3, n4, n5, n6, n7, n8, nf⟩ := cells9 QS.out
          have QT := Lib.hid (storeI_blk (y0 := .int .i64 m.en) (y1 := .int .i64 m.tm) (y2 := .int .i64 m.tr) (y3 := .int .i64 m.bm) (y4 := .int .i64 m.br) (y5 := .slice A4.sa m.sats.length A4.sc) (y6 := .slice A4.ca m.cus.length A4.cc) (y7 := .slice A4.ka m.cost.length A4.kc) (y8 := .slice A4.ta m.time.length A4.tc) QS.out)
          have PT := Lib.hid ((storeI_other (y0 := .int .i64 m.en) (y1 := .int .i64 m.tm) (y2 := .int .i64 m.tr) (y3 := .int .i64 m.bm) (y4 := .int .i64 m.br) (y5 := .slice A4.sa m.sats.length A4.sc) (y6 := .slice A4.ca m.cus.length A4.cc) (y7 := .slice A4.ka m.cost.length A4.kc) (y8 := .slice A4.ta m.time.length A4.tc) HNE.out).trans PS.out)
          have HT9 := Lib.hid (HS9.out.mod (below_storeI (wr := v9) (y0 := .int .i64 m.en) (y1 := .int .i64 m.tm) (y2 := .int .i64 m.tr) (y3 := .int .i64 m.bm) (y4 := .int .i64 m.br) (y5 := .slice A4.sa m.sats.length A4.sc) (y6 := .slice A4.ca m.cus.length A4.cc) (y7 := .slice A4.ka m.cost.length A4.kc) (y8 := .slice A4.ta m.time.length A4.tc) HGgb.out))
          have OT := Lib.hid (OS.out.storeI_ (y0 := .int .i64 m.en) (y1 := .int .i64 m.tm) (y2 := .int .i64 m.tr) (y3 := .int .i64 m.bm) (y4 := .int .i64 m.br) (y5 := .slice A4.sa m.sats.length A4.sc) (y6 := .slice A4.ca m.cus.length A4.cc) (y7 := .slice A4.ka m.cost.length A4.kc) (y8 := .slice A4.ta m.time.length A4.tc) QS.out)
          have RT := Lib.hid (RS.out.storeI_ (y0 := .int .i64 m.en) (y1 := .int .i64 m.tm) (y2 := .int .i64 m.tr) (y3 := .int .i64 m.bm) (y4 := .int .i64 m.br) (y5 := .slice A4.sa m.sats.length A4.sc) (y6 := .slice A4.ca m.cus.length A4.cc) (y7 := .slice A4.ka m.cost.length A4.kc) (y8 := .slice A4.ta m.time.length A4.tc) QS.out)
          refine wpAnyH_ready (rs := [7]) (by kernel_rfl) (by simp) ?_
          refine AllReadyH.cons rfl (fun K hK => ?_) (AllReadyH.nil)
          go_simp
          refine hK.out _ _ ?_ (fun hHeld => ?_)
          · exact HT9.out.cells
          clear hK K
          try simp only [Act.put, List.setIfInBounds_toArray, List.set_cons_zero, List.set_cons_succ, List.getElem_toArray, List.getElem_cons_zero, List.getElem_cons_succ]
          refine wpAnyH_done (by kernel_rfl) ?_ _
          clear hHeld n0 n1 n2 n3 n4 n5 n6 n7 n8 nf
          go_wp2_with fail
          go_meet
          exact ⟨ga, gb, D0, A3, A4, _, C4, D4, VK4, VT4, _, _, rfl, rfl, ⟨HT9.out, PT.out, OT.out, HGga.out, HDG.out⟩, ⟨QT.out, RT.out, hn1, hn2.2, hn4.2⟩, HNE.out, HGgb.out, HBD.out⟩
        · go_simp
          have hb := below1 v3 (.cells #[.int .i64 0, .int .i64 0, .int .i64 0, .int .i64 0, .int .i64 0, .slice none 0 0, .slice none 0 0, .slice none 0 0, .slice none 0 0] 34)
          have H4 := Lib.hid (H3.out.later hb)
          have P4 := Lib.hid (heap_alloc_new v3 (.cells #[.int .i64 0, .int .i64 0, .int .i64 0, .int .i64 0, .int .i64 0, .slice none 0 0, .slice none 0 0, .slice none 0 0, .slice none 0 0] 34))
          have Q4 := Lib.hid ((hb.block _ (Array.getElem?_eq_some_iff.1 Q3.out).1).trans Q3.out)
          have O4 := Lib.hid (O3.out.later hb)
          have E4 := Lib.hid (Nat.le_trans E3.out hb.size)
          refine hK.out _ _ ?_ (fun hHeld => ?_)
          · exact H4.out.cells
          clear hK K
          try simp only [Act.put, List.setIfInBounds_toArray, List.set_cons_zero, List.set_cons_succ, List.getElem_toArray, List.getElem_cons_zero, List.getElem_cons_succ]
          obtain ⟨ga, hga⟩ : ∃ g, v3.heap.size = g := ⟨_, rfl⟩
          have HGga : Hid (w.heap.size + 1 ≤ ga) := Lib.hid (by rw [← hga]; exact H3.out.lt)
          have HNE : Hid (ga ≠ gb) := Lib.hid (by have := (Array.getElem?_eq_some_iff.1 Q3.out).1; omega)
          obtain ⟨v4, hv4⟩ : ∃ W9, World.alloc v3 (.cells #[.int .i64 0, .int .i64 0, .int .i64 0, .int .i64 0, .int .i64 0, .slice none 0 0, .slice none 0 0, .slice none 0 0, .slice none 0 0] 34) = W9 := ⟨_, rfl⟩
          rw [hv4] at hHeld H4 P4 Q4 O4 E4 ⊢
          rw [hga] at P4 ⊢
          clear hga hv4 hb
          refine wpAnyH_ready (rs := [3]) (by kernel_rfl) (by simp) ?_
          refine AllReadyH.cons rfl (fun K hK => ?_) (AllReadyH.nil)
          go_simp
          refine (HMK.out _ (H4.out.here HSM.out)).mono ?_
          rintro e v5 ⟨⟨A4, rfl, C4, D4, VK4, VT4, hown⟩, hb⟩
          have R5 := Lib.hid hown
          have HBD : Hid (D0 ≤ v4.heap.size + 3) := Lib.hid (by have := E4.out; omega)
          have H5 := Lib.hid (H4.out.later hb)
          have P5 := Lib.hid ((hb.block _ (Array.getElem?_eq_some_iff.1 P4.out).1).trans P4.out)
          have Q5 := Lib.hid ((hb.block _ (Array.getElem?_eq_some_iff.1 Q4.out).1).trans Q4.out)
          have O5 := Lib.hid (O4.out.later hb)
          have E5 := Lib.hid (Nat.le_trans E4.out hb.size)
          clear hown hb
          refine hK.out _ _ ?_ (fun hHeld => ?_)
          · exact H5.out.cells
          clear hK K
          try simp only [Act.put, List.setIfInBounds_toArray, List.set_cons_zero, List.set_cons_succ, List.getElem_toArray, List.getElem_cons_zero, List.getElem_cons_succ]
          obtain ⟨n0, n1, n2, n3, n4, n5, n6, n7, n8, nf⟩ := cells9 P5.out
          have PS := Lib.hid (storeI_blk (y0 := .int .i64 m.en) (y1 := .int .i64 m.tm) (y2 := .int .i64 m.tr) (y3 := .int .i64 m.bm) (y4 := .int .i64 m.br) (y5 := .slice A3.sa m.sats.length A3.sc) (y6 := .slice A3.ca m.cus.length A3.cc) (y7 := .slice A3.ka m.cost.length A3.kc) (y8 := .slice A3.ta m.time.length A3.tc) P5.out)
          have QS := Lib.hid ((storeI_other (y0 := .int .i64 m.en) (y1 := .int .i64 m.tm) (y2 := .int .i64 m.tr) (y3 := .int .i64 m.bm) (y4 := .int .i64 m.br) (y5 := .slice A3.sa m.sats.length A3.sc) (y6 := .slice A3.ca m.cus.length A3.cc) (y7 := .slice A3.ka m.cost.length A3.kc) (y8 := .slice A3.ta m.time.length A3.tc) (Ne.symm HNE.out)).trans Q5.out)
          have HS9 := Lib.hid (H5.out.mod (below_storeI (wr := v5) (y0 := .int .i64 m.en) (y1 := .int .i64 m.tm) (y2 := .int .i64 m.tr) (y3 := .int .i64 m.bm) (y4 := .int .i64 m.br) (y5 := .slice A3.sa m.sats.length A3.sc) (y6 := .slice A3.ca m.cus.length A3.cc) (y7 := .slice A3.ka m.cost.length A3.kc) (y8 := .slice A3.ta m.time.length A3.tc) HGga.out))
          have OS := Lib.hid (O5.out.storeI_ (y0 := .int .i64 m.en) (y1 := .int .i64 m.tm) (y2 := .int .i64 m.tr) (y3 := .int .i64 m.bm) (y4 := .int .i64 m.br) (y5 := .slice A3.sa m.sats.length A3.sc) (y6 := .slice A3.ca m.cus.length A3.cc) (y7 := .slice A3.ka m.cost.length A3.kc) (y8 := .slice A3.ta m.time.length A3.tc) P5.out)
          have RS := Lib.hid (R5.out.storeI_ (y0 := .int .i64 m.en) (y1 := .int .i64 m.tm) (y2 := .int .i64 m.tr) (y3 := .int .i64 m.bm) (y4 := .int .i64 m.br) (y5 := .slice A3.sa m.sats.length A3.sc) (y6 := .slice A3.ca m.cus.length A3.cc) (y7 := .slice A3.ka m.cost.length A3.kc) (y8 := .slice A3.ta m.time.length A3.tc) P5.out)
          refine wpAnyH_ready (rs := [6]) (by kernel_rfl) (by simp) ?_
          refine AllReadyH.cons rfl (fun K hK => ?_) (AllReadyH.nil)
          go_simp
          refine hK.out _ _ ?_ (fun hHeld => ?_)
          · exact HS9.out.cells
          clear hK K
          try simp only [Act.put, List.setIfInBounds_toArray, List.set_cons_zero, List.set_cons_succ, List.getElem_toArray, List.getElem_cons_zero, List.getElem_cons_succ]
          clear n0 n1 n2 n3 n4 n5 n6 n7 n8 nf
          obtain ⟨v9, hv9⟩ : ∃ v9, storeI v5 ga (.int .i64 m.en) (.int .i64 m.tm) (.int .i64 m.tr) (.int .i64 m.bm) (.int .i64 m.br) (.slice A3.sa m.sats.length A3.sc) (.slice A3.ca m.cus.length A3.cc) (.slice A3.ka m.cost.length A3.kc) (.slice A3.ta m.time.length A3.tc) = v9 := ⟨_, rfl⟩
          rw [hv9] at PS QS HS9 OS RS
          unfold storeI at hv9
          rw [hv9] at hHeld ⊢
          clear hv9
          obtain ⟨n0, n1, n2, n3, n4, n5, n6, n7, n8, nf⟩ := cells9 QS.out
          have QT := Lib.hid (storeI_blk (y0 := .int .i64 m.en) (y1 := .int .i64 m.tm) (y2 := .int .i64 m.tr) (y3 := .int .i64 m.bm) (y4 := .int .i64 m.br) (y5 := .slice A4.sa m.sats.length A4.sc) (y6 := .slice A4.ca m.cus.length A4.cc) (y7 := .slice A4.ka m.cost.length A4.kc) (y8 := .slice A4.ta m.time.length A4.tc) QS.out)
          have PT := Lib.hid ((storeI_other (y0 := .int .i64 m.en) (y1 := .int .i64 m.tm) (y2 := .int .i64 m.tr) (y3 := .int .i64 m.bm) (y4 := .int .i64 m.br) (y5 := .slice A4.sa m.sats.length A4.sc) (y6 := .slice A4.ca m.cus.length A4.cc) (y7 := .slice A4.ka m.cost.length A4.kc) (y8 := .slice A4.ta m.time.length A4.tc) HNE.out).trans PS.out)
          have HT9 := Lib.hid (HS9.out.mod (below_storeI (wr := v9) (y0 := .int .i64 m.en) (y1 := .int .i64 m.tm) (y2 := .int .i64 m.tr) (y3 := .int .i64 m.bm) (y4 := .int .i64 m.br) (y5 := .slice A4.sa m.sats.length A4.sc) (y6 := .slice A4.ca m.cus.length A4.cc) (y7 := .slice A4.ka m.cost.length A4.kc) (y8 := .slice A4.ta m.time.length A4.tc) HGgb.out))
          have OT := Lib.hid (OS.out.storeI_ (y0 := .int .i64 m.en) (y1 := .int .i64 m.tm) (y2 := .int .i64 m.tr) (y3 := .int .i64 m.bm) (y4 := .int .i64 m.br) (y5 := .slice A4.sa m.sats.length A4.sc) (y6 := .slice A4.ca m.cus.length A4.cc) (y7 := .slice A4.ka m.cost.length A4.kc) (y8 := .slice A4.ta m.time.length A4.tc) QS.out)
          have RT := Lib.hid (RS.out.storeI_ (y0 := .int .i64 m.en) (y1 := .int .i64 m.tm) (y2 := .int .i64 m.tr) (y3 := .int .i64 m.bm) (y4 := .int .i64 m.br) (y5 := .slice A4.sa m.sats.length A4.sc) (y6 := .slice A4.ca m.cus.length A4.cc) (y7 := .slice A4.ka m.cost.length A4.kc) (y8 := .slice A4.ta m.time.length A4.tc) QS.out)
          refine wpAnyH_ready (rs := [7]) (by kernel_rfl) (by simp) ?_
          refine AllReadyH.cons rfl (fun K hK => ?_) (AllReadyH.nil)
          go_simp
          refine hK.out _ _ ?_ (fun hHeld => ?_)
          · exact HT9.out.cells
          clear hK K
          try simp only [Act.put, List.setIfInBounds_toArray, List.set_cons_zero, List.set_cons_succ, List.getElem_toArray, List.getElem_cons_zero, List.getElem_cons_succ]
          refine wpAnyH_done (by kernel_rfl) ?_ _
          clear hHeld n0 n1 n2 n3 n4 n5 n6 n7 n8 nf
          go_wp2_with fail
          go_meet
          exact ⟨ga, gb, D0, A3, A4, _, C4, D4, VK4, VT4, _, _, rfl, rfl, ⟨HT9.out, PT.out, OT.out, HGga.out, HDG.out⟩, ⟨QT.out, RT.out, hn1, hn2.2, hn4.2⟩, HNE.out, HGgb.out, HBD.out⟩
    · go_simp
      have hb := below1 v1 (.cells #[.int .i64 0, .int .i64 0, .int .i64 0, .int .i64 0, .int .i64 0, .slice none 0 0, .slice none 0 0, .slice none 0 0, .slice none 0 0] 34)
      have H2 := Lib.hid (H1.out.later hb)
      have P2 := Lib.hid (heap_alloc_new v1 (.cells #[.int .i64 0, .int .i64 0, .int .i64 0, .int .i64 0, .int .i64 0, .slice none 0 0, .slice none 0 0, .slice none 0 0, .slice none 0 0] 34))
      refine hK.out _ _ ?_ (fun hHeld => ?_)
      · exact H2.out.cells
      clear hK K
      try simp only [Act.put, List.setIfInBounds_toArray, List.set_cons_zero, List.set_cons_succ, List.getElem_toArray, List.getElem_cons_zero, List.getElem_cons_succ]
      obtain ⟨ga, hga⟩ : ∃ g, v1.heap.size = g := ⟨_, rfl⟩
      have HGga : Hid (w.heap.size + 1 ≤ ga) := Lib.hid (by rw [← hga]; exact H1.out.lt)
      obtain ⟨v2, hv2⟩ : ∃ W9, World.alloc v1 (.cells #[.int .i64 0, .int .i64 0, .int .i64 0, .int .i64 0, .int .i64 0, .slice none 0 0, .slice none 0 0, .slice none 0 0, .slice none 0 0] 34) = W9 := ⟨_, rfl⟩
      rw [hv2] at hHeld H2 P2 ⊢
      rw [hga] at P2 ⊢
      clear hga hv2 hb
      refine wpAnyH_ready (rs := [1, 5]) (by kernel_rfl) (by simp) ?_
      refine AllReadyH.cons rfl (fun K hK => ?_) (AllReadyH.cons rfl (fun K hK => ?_) (AllReadyH.nil))
      · go_simp
        refine (HMK.out _ (H2.out.here HSM.out)).mono ?_
        rintro e v3 ⟨⟨A3, rfl, C3, D3, VK3, VT3, hown⟩, hb⟩
        have O3 := Lib.hid (AOwn.make hown)
        obtain ⟨D0, hD0⟩ : ∃ D0, v3.heap.size = D0 := ⟨_, rfl⟩
        have E3 : Hid (D0 ≤ v3.heap.size) := Lib.hid (by rw [hD0]; exact Nat.le_refl _)
        rw [hD0] at O3
        have H3 := Lib.hid (H2.out.later hb)
        have P3 := Lib.hid ((hb.block _ (Array.getElem?_eq_some_iff.1 P2.out).1).trans P2.out)
        have HDG : Hid (w.heap.size + 1 ≤ D0) := Lib.hid (by rw [← hD0]; exact H3.out.lt)
        clear hD0
        clear hown hb
        refine hK.out _ _ ?_ (fun hHeld => ?_)
        · exact H3.out.cells
        clear hK K
        try simp only [Act.put, List.setIfInBounds_toArray, List.set_cons_zero, List.set_cons_succ, List.getElem_toArray, List.getElem_cons_zero, List.getElem_cons_succ]
        refine wpAnyH_ready (rs := [3, 5]) (by kernel_rfl) (by simp) ?_
        refine AllReadyH.cons rfl (fun K hK => ?_) (AllReadyH.cons rfl (fun K hK => ?_) (AllReadyH.nil))
        · go_simp
          refine (HMK.out _ (H3.out.here HSM.out)).mono ?_
          rintro e v4 ⟨⟨A4, rfl, C4, D4, VK4, VT4, hown⟩, hb⟩
          have R4 := Lib.hid hown
          have HBD : Hid (D0 ≤ v3.heap.size + 3) := Lib.hid (by have := E3.out; omega)
          have H4 := Lib.hid (H3.out.later hb)
          have P4 := Lib.hid ((hb.block _ (Array.getElem?_eq_some_iff.1 P3.out).1).trans P3.out)
          have O4 := Lib.hid (O3.out.later hb)
          have E4 := Lib.hid (Nat.le_trans E3.out hb.size)
          clear hown hb
          refine hK.out _ _ ?_ (fun hHeld => ?_)
          · exact H4.out.cells
          clear hK K
          try simp only [Act.put, List.setIfInBounds_toArray, List.set_cons_zero, List.set_cons_succ, List.getElem_toArray, List.getElem_cons_zero, List.getElem_cons_succ]
          refine wpAnyH_ready (rs := [5]) (by kernel_rfl) (by simp) ?_
          refine AllReadyH.cons rfl (fun K hK => ?_) (AllReadyH.nil)
          go_simp
          have hb := below1 v4 (.cells #[.int .i64 0, .int .i64 0, .int .i64 0, .int .i64 0, .int .i64 0, .slice none 0 0, .slice none 0 0, .slice none 0 0, .slice none 0 0] 34)
          have H5 := Lib.hid (H4.out.later hb)
          have Q5 := Lib.hid (heap_alloc_new v4 (.cells #[.int .i64 0, .int .i64 0, .int .i64 0, .int .i64 0, .int .i64 0, .slice none 0 0, .slice none 0 0, .slice none 0 0, .slice none 0 0] 34))
          have P5 := Lib.hid ((hb.block _ (Array.getElem?_eq_some_iff.1 P4.out).1).trans P4.out)
          have O5 := Lib.hid (O4.out.later hb)
          have E5 := Lib.hid (Nat.le_trans E4.out hb.size)
          have R5 := Lib.hid (R4.out.later hb)
          refine hK.out _ _ ?_ (fun hHeld => ?_)
          · exact H5.out.cells
          clear hK K
          try simp only [Act.put, List.setIfInBounds_toArray, List.set_cons_zero, List.set_cons_succ, List.getElem_toArray, List.getElem_cons_zero, List.getElem_cons_succ]
          obtain ⟨gb, hgb⟩ : ∃ g, v4.heap.size = g := ⟨_, rfl⟩
          have HGgb : Hid (w.heap.size + 1 ≤ gb) := Lib.hid (by rw [← hgb]; exact H4.out.lt)
          have HNE : Hid (ga ≠ gb) := Lib.hid (by have := (Array.getElem?_eq_some_iff.1 P4.out).1; omega)
          obtain ⟨v5, hv5⟩ : ∃ W9, World.alloc v4 (.cells #[.int .i64 0, .int .i64 0, .int .i64 0, .int .i64 0, .int .i64 0, .slice none 0 0, .slice none 0 0, .slice none 0 0, .slice none 0 0] 34) = W9 := ⟨_, rfl⟩
          rw [hv5] at hHeld H5 Q5 P5 O5 E5 R5 ⊢
          rw [hgb] at Q5 ⊢
          clear hgb hv5 hb
          obtain ⟨n0, n1, n2, n3, n4, n5, n6, n7, n8, nf⟩ := cells9 P5.out
          have PS := Lib.hid (storeI_blk (y0 := .int .i64 m.en) (y1 := .int .i64 m.tm) (y2 := .int .i64 m.tr) (y3 := .int .i64 m.bm) (y4 := .int .i64 m.br) (y5 := .slice A3.sa m.sats.length A3.sc) (y6 := .slice A3.ca m.cus.length A3.cc) (y7 := .slice A3.ka m.cost.length A3.kc) (y8 := .slice A3.ta m.time.length A3.tc) P5.out)
          have QS := Lib.hid ((storeI_other (y0 := .int .i64 m.en) (y1 := .int .i64 m.tm) (y2 := .int .i64 m.tr) (y3 := .int .i64 m.bm) (y4 := .int .i64 m.br) (y5 := .slice A3.sa m.sats.length A3.sc) (y6 := .slice A3.ca m.cus.length A3.cc) (y7 := .slice A3.ka m.cost.length A3.kc) (y8 := .slice A3.ta m.time.length A3.tc) (Ne.symm HNE.out)).trans Q5.out)
          have HS9 := Lib.hid (H5.out.mod (below_storeI (wr := v5) (y0 := .int .i64 m.en) (y1 := .int .i64 m.tm) (y2 := .int .i64 m.tr) (y3 := .int .i64 m.bm) (y4 := .int .i64 m.br) (y5 := .slice A3.sa m.sats.length A3.sc) (y6 := .slice A3.ca m.cus.length A3.cc) (y7 := .slice A3.ka m.cost.length A3.kc) (y8 := .slice A3.ta m.time.length A3.tc) HGga.out))
          have OS := Lib.hid (O5.out.storeI_ (y0 := .int .i64 m.en) (y1 := .int .i64 m.tm) (y2 := .int .i64 m.tr) (y3 := .int .i64 m.bm) (y4 := .int .i64 m.br) (y5 := .slice A3.sa m.sats.length A3.sc) (y6 := .slice A3.ca m.cus.length A3.cc) (y7 := .slice A3.ka m.cost.length A3.kc) (y8 := .slice A3.ta m.time.length A3.tc) P5.out)
          have RS := Lib.hid (R5.out.storeI_ (y0 := .int .i64 m.en) (y1 := .int .i64 m.tm) (y2 := .int .i64 m.tr) (y3 := .int .i64 m.bm) (y4 := .int .i64 m.br) (y5 := .slice A3.sa m.sats.length A3.sc) (y6 := .slice A3.ca m.cus.length A3.cc) (y7 := .slice A3.ka m.cost.length A3.kc) (y8 := .slice A3.ta m.time.length A3.tc) P5.out)
          refine wpAnyH_ready (rs := [6]) (by kernel_rfl) (by simp) ?_
          refine AllReadyH.cons rfl (fun K hK => ?_) (AllReadyH.nil)
          go_simp
          refine hK.out _ _ ?_ (fun hHeld => ?_)
          · exact HS9.out.cells
          clear hK K
          try simp only [Act.put, List.setIfInBounds_toArray, List.set_cons_zero, List.set_cons_succ, List.getElem_toArray, List.getElem_cons_zero, List.getElem_cons_succ]
          clear n0 n1 n2 n3 n4 n5 n6 n7 n8 nf
          obtain ⟨v9, hv9⟩ : ∃ v9, storeI v5 ga (.int .i64 m.en) (.int .i64 m.tm) (.int .i64 m.tr) (.int .i64 m.bm) (.int .i64 m.br) (.slice A3.sa m.sats.length A3.sc) (.slice A3.ca m.cus.length A3.cc) (.slice A3.ka m.cost.length A3.kc) (.slice A3.ta m.time.length A3.tc) = v9 := ⟨_, rfl⟩
          rw [hv9] at PS QS HS9 OS RS
          unfold storeI at hv9
          rw [hv9] at hHeld ⊢
          clear hv9
          obtain ⟨n0, n1, n2, n3, n4, n5, n6, n7, n8, nf⟩ := cells9 QS.out
          have QT := Lib.hid (storeI_blk (y0 := .int .i64 m.en) (y1 := .int .i64 m.tm) (y2 := .int .i64 m.tr) (y3 := .int .i64 m.bm) (y4 := .int .i64 m.br) (y5 := .slice A4.sa m.sats.length A4.sc) (y6 := .slice A4.ca m.cus.length A4.cc) (y7 := .slice A4.ka m.cost.length A4.kc) (y8 := .slice A4.ta m.time.length A4.tc) QS.out)
          have PT := Lib.hid ((storeI_other (y0 := .int .i64 m.en) (y1 := .int .i64 m.tm) (y2 := .int .i64 m.tr) (y3 := .int .i64 m.bm) (y4 := .int .i64 m.br) (y5 := .slice A4.sa m.sats.length A4.sc) (y6 := .slice A4.ca m.cus.length A4.cc) (y7 := .slice A4.ka m.cost.length A4.kc) (y8 := .slice A4.ta m.time.length A4.tc) HNE.out).trans PS.out)
          have HT9 := Lib.hid (HS9.out.mod (below_storeI (wr := v9) (y0 := .int .i64 m.en) (y1 := .int .i64 m.tm) (y2 := .int .i64 m.tr) (y3 := .int .i64 m.bm) (y4 := .int .i64 m.br) (y5 := .slice A4.sa m.sats.length A4.sc) (y6 := .slice A4.ca m.cus.length A4.cc) (y7 := .slice A4.ka m.cost.length A4.kc) (y8 := .slice A4.ta m.time.length A4.tc) HGgb.out))
          have OT := Lib.hid (OS.out.storeI_ (y0 := .int .i64 m.en) (y1 := .int .i64 m.tm) (y2 := .int .i64 m.tr) (y3 := .int .i64 m.bm) (y4 := .int .i64 m.br) (y5 := .slice A4.sa m.sats.length A4.sc) (y6 := .slice A4.ca m.cus.length A4.cc) (y7 := .slice A4.ka m.cost.length A4.kc) (y8 := .slice A4.ta m.time.length A4.tc) QS.out)
          have RT := Lib.hid (RS.out.storeI_ (y0 := .int .i64 m.en) (y1 := .int .i64 m.tm) (y2 := .int .i64 m.tr) (y3 := .int .i64 m.bm) (y4 := .int .i64 m.br) (y5 := .slice A4.sa m.sats.length A4.sc) (y6 := .slice A4.ca m.cus.length A4.cc) (y7 := .slice A4.ka m.cost.length A4.kc) (y8 := .slice A4.ta m.time.length A4.tc) QS.out)
          refine wpAnyH_ready (rs := [7]) (by kernel_rfl) (by simp) ?_
          refine AllReadyH.cons rfl (fun K hK => ?_) (AllReadyH.nil)
          go_simp
          refine hK.out _ _ ?_ (fun hHeld => ?_)
          · exact HT9.out.cells
          clear hK K
          try simp only [Act.put, List.setIfInBounds_toArray, List.set_cons_zero, List.set_cons_succ, List.getElem_toArray, List.getElem_cons_zero, List.getElem_cons_succ]
          refine wpAnyH_done (by kernel_rfl) ?_ _
          clear hHeld n0 n1 n2 n3 n4 n5 n6 n7 n8 nf
          go_wp2_with fail
          go_meet
          exact ⟨ga, gb, D0, A3, A4, _, C4, D4, VK4, VT4, _, _, rfl, rfl, ⟨HT9.out, PT.out, OT.out, HGga.out, HDG.out⟩, ⟨QT.out, RT.out, hn1, hn2.2, hn4.2⟩, HNE.out, HGgb.out, HBD.out⟩
        · go_simp
          have hb := below1 v3 (.cells #[.int .i64 0, .int .i64 0, .int .i64 0, .int .i64 0, .int .i64 0, .slice none 0 0, .slice none 0 0, .slice none 0 0, .slice none 0 0] 34)
          have H4 := Lib.hid (H3.out.later hb)
          have Q4 := Lib.hid (heap_alloc_new v3 (.cells #[.int .i64 0, .int .i64 0, .int .i64 0, .int .i64 0, .int .i64 0, .slice none 0 0, .slice none 0 0, .slice none 0 0, .slice none 0 0] 34))
          have P4 := Lib.hid ((hb.block _ (Array.getElem?_eq_some_iff.1 P3.out).1).trans P3.out)
          have O4 := Lib.hid (O3.out.later hb)
          have E4 := Lib.hid (Nat.le_trans E3.out hb.size)
          refine hK.out _ _ ?_ (fun hHeld => ?_)
          · exact H4.out.cells
          clear hK K
          try simp only [Act.put, List.setIfInBounds_toArray, List.set_cons_zero, List.set_cons_succ, List.getElem_toArray, List.getElem_cons_zero, List.getElem_cons_succ]
          obtain ⟨gb, hgb⟩ : ∃ g, v3.heap.size = g := ⟨_, rfl⟩
          have HGgb : Hid (w.heap.size + 1 ≤ gb) := Lib.hid (by rw [← hgb]; exact H3.out.lt)
          have HNE : Hid (ga ≠ gb) := Lib.hid (by have := (Array.getElem?_eq_some_iff.1 P3.out).1; omega)
          obtain ⟨v4, hv4⟩ : ∃ W9, World.alloc v3 (.cells #[.int .i64 0, .int .i64 0, .int .i64 0, .int .i64 0, .int .i64 0, .slice none 0 0, .slice none 0 0, .slice none 0 0, .slice none 0 0] 34) = W9 := ⟨_, rfl⟩
          rw [hv4] at hHeld H4 Q4 P4 O4 E4 ⊢
          rw [hgb] at Q4 ⊢
          clear hgb hv4 hb
          refine wpAnyH_ready (rs := [3]) (by kernel_rfl) (by simp) ?_
          refine AllReadyH.cons rfl (fun K hK => ?_) (AllReadyH.nil)
          go_simp
          refine (HMK.out _ (H4.out.here HSM.out)).mono ?_
          rintro e v5 ⟨⟨A4, rfl, C4, D4, VK4, VT4, hown⟩, hb⟩
          have R5 := Lib.hid hown
          have HBD : Hid (D0 ≤ v4.heap.size + 3) := Lib.hid (by have := E4.out; omega)
          have H5 := Lib.hid (H4.out.later hb)
          have P5 := Lib.hid ((hb.block _ (Array.getElem?_eq_some_iff.1 P4.out).1).trans P4.out)
          have Q5 := Lib.hid ((hb.block _ (Array.getElem?_eq_some_iff.1 Q4.out).1).trans Q4.out)
          have O5 := Lib.hid (O4.out.later hb)
          have E5 := Lib.hid (Nat.le_trans E4.out hb.size)
          clear hown hb
          refine hK.out _ _ ?_ (fun hHeld => ?_)
          · exact H5.out.cells
          clear hK K
          try simp only [Act.put, List.setIfInBounds_toArray, List.set_cons_zero, List.set_cons_succ, List.getElem_toArray, List.getElem_cons_zero, List.getElem_cons_succ]
          obtain ⟨n0, n1, n2, n3, n4, n5, n6, n7, n8, nf⟩ := cells9 P5.out
          have PS := Lib.hid (storeI_blk (y0 := .int .i64 m.en) (y1 := .int .i64 m.tm) (y2 := .int .i64 m.tr) (y3 := .int .i64 m.bm) (y4 := .int .i64 m.br) (y5 := .slice A3.sa m.sats.length A3.sc) (y6 := .slice A3.ca m.cus.length A3.cc) (y7 := .slice A3.ka m.cost.length A3.kc) (y8 := .slice A3.ta m.time.length A3.tc) P5.out)
          have QS := Lib.hid ((storeI_other (y0 := .int .i64 m.en) (y1 := .int .i64 m.tm) (y2 := .int .i64 m.tr) (y3 := .int .i64 m.bm) (y4 := .int .i64 m.br) (y5 := .slice A3.sa m.sats.length A3.sc) (y6 := .slice A3.ca m.cus.length A3.cc) (y7 := .slice A3.ka m.cost.length A3.kc) (y8 := .slice A3.ta m.time.length A3.tc) (Ne.symm HNE.out)).trans Q5.out)
          have HS9 := Lib.hid (H5.out.mod (below_storeI (wr := v5) (y0 := .int .i64 m.en) (y1 := .int .i64 m.tm) (y2 := .int .i64 m.tr) (y3 := .int .i64 m.bm) (y4 := .int .i64 m.br) (y5 := .slice A3.sa m.sats.length A3.sc) (y6 := .slice A3.ca m.cus.length A3.cc) (y7 := .slice A3.ka m.cost.length A3.kc) (y8 := .slice A3.ta m.time.length A3.tc) HGga.out))
          have OS := Lib.hid (O5.out.storeI_ (y0 := .int .i64 m.en) (y1 := .int .i64 m.tm) (y2 := .int .i64 m.tr) (y3 := .int .i64 m.bm) (y4 := .int .i64 m.br) (y5 := .slice A3.sa m.sats.length A3.sc) (y6 := .slice A3.ca m.cus.length A3.cc) (y7 := .slice A3.ka m.cost.length A3.kc) (y8 := .slice A3.ta m.time.length A3.tc) P5.out)
          have RS := Lib.hid (R5.out.storeI_ (y0 := .int .i64 m.en) (y1 := .int .i64 m.tm) (y2 := .int .i64 m.tr) (y3 := .int .i64 m.bm) (y4 := .int .i64 m.br) (y5 := .slice A3.sa m.sats.length A3.sc) (y6 := .slice A3.ca m.cus.length A3.cc) (y7 := .slice A3.ka m.cost.length A3.kc) (y8 := .slice A3.ta m.time.length A3.tc) P5.out)
          refine wpAnyH_ready (rs := [6]) (by kernel_rfl) (by simp) ?_
          refine AllReadyH.cons rfl (fun K hK => ?_) (AllReadyH.nil)
          go_simp
          refine hK.out _ _ ?_ (fun hHeld => ?_)
          · exact HS9.out.cells
          clear hK K
          try simp only [Act.put, List.setIfInBounds_toArray, List.set_cons_zero, List.set_cons_succ, List.getElem_toArray, List.getElem_cons_zero, List.getElem_cons_succ]
          clear n0 n1 n2 n3 n4 n5 n6 n7 n8 nf
          obtain ⟨v9, hv9⟩ : ∃ v9, storeI v5 ga (.int .i64 m.en) (.int .i64 m.tm) (.int .i64 m.tr) (.int .i64 m.bm) (.int .i64 m.br) (.slice A3.sa m.sats.length A3.sc) (.slice A3.ca m.cus.length A3.cc) (.slice A3.ka m.cost.length A3.kc) (.slice A3.ta m.time.length A3.tc) = v9 := ⟨_, rfl⟩
          rw [hv9] at PS QS HS9 OS RS
          unfold storeI at hv9
          rw [hv9] at hHeld ⊢
          clear hv9
          obtain ⟨n0, n1, n2, n3, n4, n5, n6, n7, n8, nf⟩ := cells9 QS.out
          have QT := Lib.hid (storeI_blk (y0 := .int .i64 m.en) (y1 := .int .i64 m.tm) (y2 := .int .i64 m.tr) (y3 := .int .i64 m.bm) (y4 := .int .i64 m.br) (y5 := .slice A4.sa m.sats.length A4.sc) (y6 := .slice A4.ca m.cus.length A4.cc) (y7 := .slice A4.ka m.cost.length A4.kc) (y8 := .slice A4.ta m.time.length A4.tc) QS.out)
          have PT := Lib.hid ((storeI_other (y0 := .int .i64 m.en) (y1 := .int .i64 m.tm) (y2 := .int .i64 m.tr) (y3 := .int .i64 m.bm) (y4 := .int .i64 m.br) (y5 := .slice A4.sa m.sats.length A4.sc) (y6 := .slice A4.ca m.cus.length A4.cc) (y7 := .slice A4.ka m.cost.length A4.kc) (y8 := .slice A4.ta m.time.length A4.tc) HNE.out).trans PS.out)
          have HT9 := Lib.hid (HS9.out.mod (below_storeI (wr := v9) (y0 := .int .i64 m.en) (y1 := .int .i64 m.tm) (y2 := .int .i64 m.tr) (y3 := .int .i64 m.bm) (y4 := .int .i64 m.br) (y5 := .slice A4.sa m.sats.length A4.sc) (y6 := .slice A4.ca m.cus.length A4.cc) (y7 := .slice A4.ka m.cost.length A4.kc) (y8 := .slice A4.ta m.time.length A4.tc) HGgb.out))
          have OT := Lib.hid (OS.out.storeI_ (y0 := .int .i64 m.en) (y1 := .int .i64 m.tm) (y2 := .int .i64 m.tr) (y3 := .int .i64 m.bm) (y4 := .int .i64 m.br) (y5 := .slice A4.sa m.sats.length A4.sc) (y6 := .slice A4.ca m.cus.length A4.cc) (y7 := .slice A4.ka m.cost.length A4.kc) (y8 := .slice A4.ta m.time.length A4.tc) QS.out)
          have RT := Lib.hid (RS.out.storeI_ (y0 := .int .i64 m.en) (y1 := .int .i64 m.tm) (y2 := .int .i64 m.tr) (y3 := .int .i64 m.bm) (y4 := .int .i64 m.br) (y5 := .slice A4.sa m.sats.length A4.sc) (y6 := .slice A4.ca m.cus.length A4.cc) (y7 := .slice A4.ka m.cost.length A4.kc) (y8 := .slice A4.ta m.time.length A4.tc) QS.out)
          refine wpAnyH_ready (rs := [7]) (by kernel_rfl) (by simp) ?_
          refine AllReadyH.cons rfl (fun K hK => ?_) (AllReadyH.nil)
          go_simp
          refine hK.out _ _ ?_ (fun hHeld => ?_)
          · exact HT9.out.cells
          clear hK K
          try simp only [Act.put, List.setIfInBounds_toArray, List.set_cons_zero, List.set_cons_succ, List.getElem_toArray, List.getElem_cons_zero, List.getElem_cons_succ]
          refine wpAnyH_done (by kernel_rfl) ?_ _
          clear hHeld n0 n1 n2 n3 n4 n5 n6 n7 n8 nf
          go_wp2_with fail
          go_meet
          exact ⟨ga, gb, D0, A3, A4, _, C4, D4, VK4, VT4, _, _, rfl, rfl, ⟨HT9.out, PT.out, OT.out, HGga.out, HDG.out⟩, ⟨QT.out, RT.out, hn1, hn2.2, hn4.2⟩, HNE.out, HGgb.out, HBD.out⟩
      · go_simp
        have hb := below1 v2 (.cells #[.int .i64 0, .int .i64 0, .int .i64 0, .int .i64 0, .int .i64 0, .slice none 0 0, .slice none 0 0, .slice none 0 0, .slice none 0 0] 34)
        have H3 := Lib.hid (H2.out.later hb)
        have Q3 := Lib.hid (heap_alloc_new v2 (.cells #[.int .i64 0, .int .i64 0, .int .i64 0, .int .i64 0, .int .i64 0, .slice none 0 0, .slice none 0 0, .slice none 0 0, .slice none 0 0] 34))
        have P3 := Lib.hid ((hb.block _ (Array.getElem?_eq_some_iff.1 P2.out).1).trans P2.out)
        refine hK.out _ _ ?_ (fun hHeld => ?_)
        · exact H3.out.cells
        clear hK K
        try simp only [Act.put, List.setIfInBounds_toArray, List.set_cons_zero, List.set_cons_succ, List.getElem_toArray, List.getElem_cons_zero, List.getElem_cons_succ]
        obtain ⟨gb, hgb⟩ : ∃ g, v2.heap.size = g := ⟨_, rfl⟩
        have HGgb : Hid (w.heap.size + 1 ≤ gb) := Lib.hid (by rw [← hgb]; exact H2.out.lt)
        have HNE : Hid (ga ≠ gb) := Lib.hid (by have := (Array.getElem?_eq_some_iff.1 P2.out).1; omega)
        obtain ⟨v3, hv3⟩ : ∃ W9, World.alloc v2 (.cells #[.int .i64 0, .int .i64 0, .int .i64 0, .int .i64 0, .int .i64 0, .slice none 0 0, .slice none 0 0, .slice none 0 0, .slice none 0 0] 34) = W9 := ⟨_, rfl⟩
        rw [hv3] at hHeld H3 Q3 P3 ⊢
        rw [hgb] at Q3 ⊢
        clear hgb hv3 hb
        refine wpAnyH_ready (rs := [1]) (by kernel_rfl) (by simp) ?_
        refine AllReadyH.cons rfl (fun K hK => ?_) (AllReadyH.nil)
        go_simp
        refine (HMK.out _ (H3.out.here HSM.out)).mono ?_
        rintro e v4 ⟨⟨A3, rfl, C3, D3, VK3, VT3, hown⟩, hb⟩
        have O4 := Lib.hid (AOwn.make hown)
        obtain ⟨D0, hD0⟩ : ∃ D0, v4.heap.size = D0 := ⟨_, rfl⟩
        have E4 : Hid (D0 ≤ v4.heap.size) := Lib.hid (by rw [hD0]; exact Nat.le_refl _)
        rw [hD0] at O4
        have H4 := Lib.hid (H3.out.later hb)
        have P4 := Lib.hid ((hb.block _ (Array.getElem?_eq_some_iff.1 P3.out).1).trans P3.out)
        have Q4 := Lib.hid ((hb.block _ (Array.getElem?_eq_some_iff.1 Q3.out).1).trans Q3.out)
        have HDG : Hid (w.heap.size + 1 ≤ D0) := Lib.hid (by rw [← hD0]; exact H4.out.lt)
        clear hD0
        clear hown hb
        refine hK.out _ _ ?_ (fun hHeld => ?_)
        · exact H4.out.cells
        clear hK K
        try simp only [Act.put, List.setIfInBounds_toArray, List.set_cons_zero, List.set_cons_succ, List.getElem_toArray, List.getElem_cons_zero, List.getElem_cons_succ]
        refine wpAnyH_ready (rs := [3]) (by kernel_rfl) (by simp) ?_
        refine AllReadyH.cons rfl (fun K hK => ?_) (AllReadyH.nil)
        go_simp
        refine (HMK.out _ (H4.out.here HSM.out)).mono ?_
        rintro e v5 ⟨⟨A4, rfl, C4, D4, VK4, VT4, hown⟩, hb⟩
        have R5 := Lib.hid hown
        have HBD : Hid (D0 ≤ v4.heap.size + 3) := Lib.hid (by have := E4.out; omega)
        have H5 := Lib.hid (H4.out.later hb)
        have P5 := Lib.hid ((hb.block _ (Array.getElem?_eq_some_iff.1 P4.out).1).trans P4.out)
        have Q5 := Lib.hid ((hb.block _ (Array.getElem?_eq_some_iff.1 Q4.out).1).trans Q4.out)
        have O5 := Lib.hid (O4.out.later hb)
        have E5 := Lib.hid (Nat.le_trans E4.out hb.size)
        clear hown hb
        refine hK.out _ _ ?_ (fun hHeld => ?_)
        · exact H5.out.cells
        clear hK K
        try simp only [Act.put, List.setIfInBounds_toArray, List.set_cons_zero, List.set_cons_succ, List.getElem_toArray, List.getElem_cons_zero, List.getElem_cons_succ]
        obtain ⟨n0, n1, n2, n3, n4, n5, n6, n7, n8, nf⟩ := cells9 P5.out
        have PS := Lib.hid (storeI_blk (y0 := .int .i64 m.en) (y1 := .int .i64 m.tm) (y2 := .int .i64 m.tr) (y3 := .int .i64 m.bm) (y4 := .int .i64 m.br) (y5 := .slice A3.sa m.sats.length A3.sc) (y6 := .slice A3.ca m.cus.length A3.cc) (y7 := .slice A3.ka m.cost.length A3.kc) (y8 := .slice A3.ta m.time.length A3.tc) P5.out)
        have QS := Lib.hid ((storeI_other (y0 := .int .i64 m.en) (y1 := .int .i64 m.tm) (y2 := .int .i64 m.tr) (y3 := .int .i64 m.bm) (y4 := .int .i64 m.br) (y5 := .slice A3.sa m.sats.length A3.sc) (y6 := .slice A3.ca m.cus.length A3.cc) (y7 := .slice A3.ka m.cost.length A3.kc) (y8 := .slice A3.ta m.time.length A3.tc) (Ne.symm HNE.out)).trans Q5.out)
        have HS9 := Lib.hid (H5.out.mod (below_storeI (wr := v5) (y0 := .int .i64 m.en) (y1 := .int .i64 m.tm) (y2 := .int .i64 m.tr) (y3 := .int .i64 m.bm) (y4 := .int .i64 m.br) (y5 := .slice A3.sa m.sats.length A3.sc) (y6 := .slice A3.ca m.cus.length A3.cc) (y7 := .slice A3.ka m.cost.length A3.kc) (y8 := .slice A3.ta m.time.length A3.tc) HGga.out))
        have OS := Lib.hid (O5.out.storeI_ (y0 := .int .i64 m.en) (y1 := .int .i64 m.tm) (y2 := .int .i64 m.tr) (y3 := .int .i64 m.bm) (y4 := .int .i64 m.br) (y5 := .slice A3.sa m.sats.length A3.sc) (y6 := .slice A3.ca m.cus.length A3.cc) (y7 := .slice A3.ka m.cost.length A3.kc) (y8 := .slice A3.ta m.time.length A3.tc) P5.out)
        have RS := Lib.hid (R5.out.storeI_ (y0 := .int .i64 m.en) (y1 := .int .i64 m.tm) (y2 := .int .i64 m.tr) (y3 := .int .i64 m.bm) (y4 := .int .i64 m.br) (y5 := .slice A3.sa m.sats.length A3.sc) (y6 := .slice A3.ca m.cus.length A3.cc) (y7 := .slice A3.ka m.cost.length A3.kc) (y8 := .slice A3.ta m.time.length A3.tc) P5.out)
        refine wpAnyH_ready (rs := [6]) (by kernel_rfl) (by simp) ?_
        refine AllReadyH.cons rfl (fun K hK => ?_) (AllReadyH.nil)
        go_simp
        refine hK.out _ _ ?_ (fun hHeld => ?_)
        · exact HS9.out.cells
        clear hK K
        try simp only [Act.put, List.setIfInBounds_toArray, List.set_cons_zero, List.set_cons_succ, List.getElem_toArray, List.getElem_cons_zero, List.getElem_cons_succ]
        clear n0 n1 n2 n3 n4 n5 n6 n7 n8 nf
        obtain ⟨v9, hv9⟩ : ∃ v9, storeI v5 ga (.int .i64 m.en) (.int .i64 m.tm) (.int .i64 m.tr) (.int .i64 m.bm) (.int .i64 m.br) (.slice A3.sa m.sats.length A3.sc) (.slice A3.ca m.cus.length A3.cc) (.slice A3.ka m.cost.length A3.kc) (.slice A3.ta m.time.length A3.tc) = v9 := ⟨_, rfl⟩
        rw [hv9] at PS QS HS9 OS RS
        unfold storeI at hv9
        rw [hv9] at hHeld ⊢
        clear hv9
        obtain ⟨n0, n1, n2, n3, n4, n5, n6, n7, n8, nf⟩ := cells9 QS.out
        have QT := Lib.hid (storeI_blk (y0 := .int .i64 m.en) (y1 := .int .i64 m.tm) (y2 := .int .i64 m.tr) (y3 := .int .i64 m.bm) (y4 := .int .i64 m.br) (y5 := .slice A4.sa m.sats.length A4.sc) (y6 := .slice A4.ca m.cus.length A4.cc) (y7 := .slice A4.ka m.cost.length A4.kc) (y8 := .slice A4.ta m.time.length A4.tc) QS.out)
        have PT := Lib.hid ((storeI_other (y0 := .int .i64 m.en) (y1 := .int .i64 m.tm) (y2 := .int .i64 m.tr) (y3 := .int .i64 m.bm) (y4 := .int .i64 m.br) (y5 := .slice A4.sa m.sats.length A4.sc) (y6 := .slice A4.ca m.cus.length A4.cc) (y7 := .slice A4.ka m.cost.length A4.kc) (y8 := .slice A4.ta m.time.length A4.tc) HNE.out).trans PS.out)
        have HT9 := Lib.hid (HS9.out.mod (below_storeI (wr := v9) (y0 := .int .i64 m.en) (y1 := .int .i64 m.tm) (y2 := .int .i64 m.tr) (y3 := .int .i64 m.bm) (y4 := .int .i64 m.br) (y5 := .slice A4.sa m.sats.length A4.sc) (y6 := .slice A4.ca m.cus.length A4.cc) (y7 := .slice A4.ka m.cost.length A4.kc) (y8 := .slice A4.ta m.time.length A4.tc) HGgb.out))
        have OT := Lib.hid (OS.out.storeI_ (y0 := .int .i64 m.en) (y1 := .int .i64 m.tm) (y2 := .int .i64 m.tr) (y3 := .int .i64 m.bm) (y4 := .int .i64 m.br) (y5 := .slice A4.sa m.sats.length A4.sc) (y6 := .slice A4.ca m.cus.length A4.cc) (y7 := .slice A4.ka m.cost.length A4.kc) (y8 := .slice A4.ta m.time.length A4.tc) QS.out)
        have RT := Lib.hid (RS.out.storeI_ (y0 := .int .i64 m.en) (y1 := .int .i64 m.tm) (y2 := .int .i64 m.tr) (y3 := .int .i64 m.bm) (y4 := .int .i64 m.br) (y5 := .slice A4.sa m.sats.length A4.sc) (y6 := .slice A4.ca m.cus.length A4.cc) (y7 := .slice A4.ka m.cost.length A4.kc) (y8 := .slice A4.ta m.time.length A4.tc) QS.out)
        refine wpAnyH_ready (rs := [7]) (by kernel_rfl) (by simp) ?_
        refine AllReadyH.cons rfl (fun K hK => ?_) (AllReadyH.nil)
        go_simp
        refine hK.out _ _ ?_ (fun hHeld => ?_)
        · exact HT9.out.cells
        clear hK K
        try simp only [Act.put, List.setIfInBounds_toArray, List.set_cons_zero, List.set_cons_succ, List.getElem_toArray, List.getElem_cons_zero, List.getElem_cons_succ]
        refine wpAnyH_done (by kernel_rfl) ?_ _
        clear hHeld n0 n1 n2 n3 n4 n5 n6 n7 n8 nf
        go_wp2_with fail
        go_meet
        exact ⟨ga, gb, D0, A3, A4, _, C4, D4, VK4, VT4, _, _, rfl, rfl, ⟨HT9.out, PT.out, OT.out, HGga.out, HDG.out⟩, ⟨QT.out, RT.out, hn1, hn2.2, hn4.2⟩, HNE.out, HGgb.out, HBD.out⟩
    · go_simp
      have hb := below1 v1 (.cells #[.int .i64 0, .int .i64 0, .int .i64 0, .int .i64 0, .int .i64 0, .slice none 0 0, .slice none 0 0, .slice none 0 0, .slice none 0 0] 34)
      have H2 := Lib.hid (H1.out.later hb)
      have Q2 := Lib.hid (heap_alloc_new v1 (.cells #[.int .i64 0, .int .i64 0, .int .i64 0, .int .i64 0, .int .i64 0, .slice none 0 0, .slice none 0 0, .slice none 0 0, .slice none 0 0] 34))
      refine hK.out _ _ ?_ (fun hHeld => ?_)
      · exact H2.out.cells
      clear hK K
      try simp only [Act.put, List.setIfInBounds_toArray, List.set_cons_zero, List.set_cons_succ, List.getElem_toArray, List.getElem_cons_zero, List.getElem_cons_succ]
      obtain ⟨gb, hgb⟩ : ∃ g, v1.heap.size = g := ⟨_, rfl⟩
      have HGgb : Hid (w.heap.size + 1 ≤ gb) := Lib.hid (by rw [← hgb]; exact H1.out.lt)
      obtain ⟨v2, hv2⟩ : ∃ W9, World.alloc v1 (.cells #[.int .i64 0, .int .i64 0, .int .i64 0, .int .i64 0, .int .i64 0, .slice none 0 0, .slice none 0 0, .slice none 0 0, .slice none 0 0] 34) = W9 := ⟨_, rfl⟩
      rw [hv2] at hHeld H2 Q2 ⊢
      rw [hgb] at Q2 ⊢
      clear hgb hv2 hb
      refine wpAnyH_ready (rs := [1, 4]) (by kernel_rfl) (by simp) ?_
      refine AllReadyH.cons rfl (fun K hK => ?_) (AllReadyH.cons rfl (fun K hK => ?_) (AllReadyH.nil))
      · go_simp
        refine (HMK.out _ (H2.out.here HSM.out)).mono ?_
        rintro e v3 ⟨⟨A3, rfl, C3, D3, VK3, VT3, hown⟩, hb⟩
        have O3 := Lib.hid (AOwn.make hown)
        obtain ⟨D0, hD0⟩ : ∃ D0, v3.heap.size = D0 := ⟨_, rfl⟩
        have E3 : Hid (D0 ≤ v3.heap.size) := Lib.hid (by rw [hD0]; exact Nat.le_refl _)
        rw [hD0] at O3
        have H3 := Lib.hid (H2.out.later hb)
        have Q3 := Lib.hid ((hb.block _ (Array.getElem?_eq_some_iff.1 Q2.out).1).trans Q2.out)
        have HDG : Hid (w.heap.size + 1 ≤ D0) := Lib.hid (by rw [← hD0]; exact H3.out.lt)
        clear hD0
        clear hown hb
        refine hK.out _ _ ?_ (fun hHeld => ?_)
        · exact H3.out.cells
        clear hK K
        try simp only [Act.put, List.setIfInBounds_toArray, List.set_cons_zero, List.set_cons_succ, List.getElem_toArray, List.getElem_cons_zero, List.getElem_cons_succ]
        refine wpAnyH_ready (rs := [3, 4]) (by kernel_rfl) (by simp) ?_
        refine AllReadyH.cons rfl (fun K hK => ?_) (AllReadyH.cons rfl (fun K hK => ?_) (AllReadyH.nil))
        · go_simp
          refine (HMK.out _ (H3.out.here HSM.out)).mono ?_
          rintro e v4 ⟨⟨A4, rfl, C4, D4, VK4, VT4, hown⟩, hb⟩
          have R4 := Lib.hid hown
          have HBD : Hid (D0 ≤ v3.heap.size + 3) := Lib.hid (by have := E3.out; omega)
          have H4 := Lib.hid (H3.out.later hb)
          have Q4 := Lib.hid ((hb.block _ (Array.getElem?_eq_some_iff.1 Q3.out).1).trans Q3.out)
          have O4 := Lib.hid (O3.out.later hb)
          have E4 := Lib.hid (Nat.le_trans E3.out hb.size)
          clear hown hb
          refine hK.out _ _ ?_ (fun hHeld => ?_)
          · exact H4.out.cells
          clear hK K
          try simp only [Act.put, List.setIfInBounds_toArray, List.set_cons_zero, List.set_cons_succ, List.getElem_toArray, List.getElem_cons_zero, List.getElem_cons_succ]
          refine wpAnyH_ready (rs := [4]) (by kernel_rfl) (by simp) ?_
          refine AllReadyH.cons rfl (fun K hK => ?_) (AllReadyH.nil)
          go_simp
          have hb := below1 v4 (.cells #[.int .i64 0, .int .i64 0, .int .i64 0, .int .i64 0, .int .i64 0, .slice none 0 0, .slice none 0 0, .slice none 0 0, .slice none 0 0] 34)
          have H5 := Lib.hid (H4.out.later hb)
          have P5 := Lib.hid (heap_alloc_new v4 (.cells #[.int .i64 0, .int .i64 0, .int .i64 0, .int .i64 0, .int .i64 0, .slice none 0 0, .slice none 0 0, .slice none 0 0, .slice none 0 0] 34))
          have Q5 := Lib.hid ((hb.block _ (Array.getElem?_eq_some_iff.1 Q4.out).1).trans Q4.out)
          have O5 := Lib.hid (O4.out.later hb)
          have E5 := Lib.hid (Nat.le_trans E4.out hb.size)
          have R5 := Lib.hid (R4.out.later hb)
          refine hK.out _ _ ?_ (fun hHeld => ?_)
          · exact H5.out.cells
          clear hK K
          try simp only [Act.put, List.setIfInBounds_toArray, List.set_cons_zero, List.set_cons_succ, List.getElem_toArray, List.getElem_cons_zero, List.getElem_cons_succ]
          obtain ⟨ga, hga⟩ : ∃ g, v4.heap.size = g := ⟨_, rfl⟩
          have HGga : Hid (w.heap.size + 1 ≤ ga) := Lib.hid (by rw [← hga]; exact H4.out.lt)
          have HNE : Hid (ga ≠ gb) := Lib.hid (by have := (Array.getElem?_eq_some_iff.1 Q4.out).1; omega)
          obtain ⟨v5, hv5⟩ : ∃ W9, World.alloc v4 (.cells #[.int .i64 0, .int .i64 0, .int .i64 0, .int .i64 0, .int .i64 0, .slice none 0 0, .slice none 0 0, .slice none 0 0, .slice none 0 0] 34) = W9 := ⟨_, rfl⟩
          rw [hv5] at hHeld H5 P5 Q5 O5 E5 R5 ⊢
          rw [hga] at P5 ⊢
          clear hga hv5 hb
          obtain ⟨n0, n1, n2, n3, n4, n5, n6, n7, n8, nf⟩ := cells9 P5.out
          have PS := Lib.hid (storeI_blk (y0 := .int .i64 m.en) (y1 := .int .i64 m.tm) (y2 := .int .i64 m.tr) (y3 := .int .i64 m.bm) (y4 := .int .i64 m.br) (y5 := .slice A3.sa m.sats.length A3.sc) (y6 := .slice A3.ca m.cus.length A3.cc) (y7 := .slice A3.ka m.cost.length A3.kc) (y8 := .slice A3.ta m.time.length A3.tc) P5.out)
          have QS := Lib.hid ((storeI_other (y0 := .int .i64 m.en) (y1 := .int .i64 m.tm) (y2 := .int .i64 m.tr) (y3 := .int .i64 m.bm) (y4 := .int .i64 m.br) (y5 := .slice A3.sa m.sats.length A3.sc) (y6 := .slice A3.ca m.cus.length A3.cc) (y7 := .slice A3.ka m.cost.length A3.kc) (y8 := .slice A3.ta m.time.length A3.tc) (Ne.symm HNE.out)).trans Q5.out)
          have HS9 := Lib.hid (H5.out.mod (below_storeI (wr := v5) (y0 := .int .i64 m.en) (y1 := .int .i64 m.tm) (y2 := .int .i64 m.tr) (y3 := .int .i64 m.bm) (y4 := .int .i64 m.br) (y5 := .slice A3.sa m.sats.length A3.sc) (y6 := .slice A3.ca m.cus.length A3.cc) (y7 := .slice A3.ka m.cost.length A3.kc) (y8 := .slice A3.ta m.time.length A3.tc) HGga.out))
          have OS := Lib.hid (O5.out.storeI_ (y0 := .int .i64 m.en) (y1 := .int .i64 m.tm) (y2 := .int .i64 m.tr) (y3 := .int .i64 m.bm) (y4 := .int .i64 m.br) (y5 := .slice A3.sa m.sats.length A3.sc) (y6 := .slice A3.ca m.cus.length A3.cc) (y7 := .slice A3.ka m.cost.length A3.kc) (y8 := .slice A3.ta m.time.length A3.tc) P5.out)
          have RS := Lib.hid (R5.out.storeI_ (y0 := .int .i64 m.en) (y1 := .int .i64 m.tm) (y2 := .int .i64 m.tr) (y3 := .int .i64 m.bm) (y4 := .int .i64 m.br) (y5 := .slice A3.sa m.sats.length A3.sc) (y6 := .slice A3.ca m.cus.length A3.cc) (y7 := .slice A3.ka m.cost.length A3.kc) (y8 := .slice A3.ta m.time.length A3.tc) P5.out)
          refine wpAnyH_ready (rs := [6]) (by kernel_rfl) (by simp) ?_
          refine AllReadyH.cons rfl (fun K hK => ?_) (AllReadyH.nil)
          go_simp
          refine hK.out _ _ ?_ (fun hHeld => ?_)
          · exact HS9.out.cells
          clear hK K
          try simp only [Act.put, List.setIfInBounds_toArray, List.set_cons_zero, List.set_cons_succ, List.getElem_toArray, List.getElem_cons_zero, List.getElem_cons_succ]
          clear n0 n1 n2 n3 n4 n5 n6 n7 n8 nf
          obtain ⟨v9, hv9⟩ : ∃ v9, storeI v5 ga (.int .i64 m.en) (.int .i64 m.tm) (.int .i64 m.tr) (.int .i64 m.bm) (.int .i64 m.br) (.slice A3.sa m.sats.length A3.sc) (.slice A3.ca m.cus.length A3.cc) (.slice A3.ka m.cost.length A3.kc) (.slice A3.ta m.time.length A3.tc) = v9 := ⟨_, rfl⟩
          rw [hv9] at PS QS HS9 OS RS
          unfold storeI at hv9
          rw [hv9] at hHeld ⊢
          clear hv9
          obtain ⟨n0, n1, n2, n3, n4, n5, n6, n7, n8, nf⟩ := cells9 QS.out
          have QT := Lib.hid (storeI_blk (y0 := .int .i64 m.en) (y1 := .int .i64 m.tm) (y2 := .int .i64 m.tr) (y3 := .int .i64 m.bm) (y4 := .int .i64 m.br) (y5 := .slice A4.sa m.sats.length A4.sc) (y6 := .slice A4.ca m.cus.length A4.cc) (y7 := .slice A4.ka m.cost.length A4.kc) (y8 := .slice A4.ta m.time.length A4.tc) QS.out)
          have PT := Lib.hid ((storeI_other (y0 := .int .i64 m.en) (y1 := .int .i64 m.tm) (y2 := .int .i64 m.tr) (y3 := .int .i64 m.bm) (y4 := .int .i64 m.br) (y5 := .slice A4.sa m.sats.length A4.sc) (y6 := .slice A4.ca m.cus.length A4.cc) (y7 := .slice A4.ka m.cost.length A4.kc) (y8 := .slice A4.ta m.time.length A4.tc) HNE.out).trans PS.out)
          have HT9 := Lib.hid (HS9.out.mod (below_storeI (wr := v9) (y0 := .int .i64 m.en) (y1 := .int .i64 m.tm) (y2 := .int .i64 m.tr) (y3 := .int .i64 m.bm) (y4 := .int .i64 m.br) (y5 := .slice A4.sa m.sats.length A4.sc) (y6 := .slice A4.ca m.cus.length A4.cc) (y7 := .slice A4.ka m.cost.length A4.kc) (y8 := .slice A4.ta m.time.length A4.tc) HGgb.out))
          have OT := Lib.hid (OS.out.storeI_ (y0 := .int .i64 m.en) (y1 := .int .i64 m.tm) (y2 := .int .i64 m.tr) (y3 := .int .i64 m.bm) (y4 := .int .i64 m.br) (y5 := .slice A4.sa m.sats.length A4.sc) (y6 := .slice A4.ca m.cus.length A4.cc) (y7 := .slice A4.ka m.cost.length A4.kc) (y8 := .slice A4.ta m.time.length A4.tc) QS.out)
          have RT := Lib.hid (RS.out.storeI_ (y0 := .int .i64 m.en) (y1 := .int .i64 m.tm) (y2 := .int .i64 m.tr) (y3 := .int .i64 m.bm) (y4 := .int .i64 m.br) (y5 := .slice A4.sa m.sats.length A4.sc) (y6 := .slice A4.ca m.cus.length A4.cc) (y7 := .slice A4.ka m.cost.length A4.kc) (y8 := .slice A4.ta m.time.length A4.tc) QS.out)
          refine wpAnyH_ready (rs := [7]) (by kernel_rfl) (by simp) ?_
          refine AllReadyH.cons rfl (fun K hK => ?_) (AllReadyH.nil)
          go_simp
          refine hK.out _ _ ?_ (fun hHeld => ?_)
          · exact HT9.out.cells
          clear hK K
          try simp only [Act.put, List.setIfInBounds_toArray, List.set_cons_zero, List.set_cons_succ, List.getElem_toArray, List.getElem_cons_zero, List.getElem_cons_succ]
          refine wpAnyH_done (by kernel_rfl) ?_ _
          clear hHeld n0 n1 n2 n3 n4 n5 n6 n7 n8 nf
          go_wp2_with fail
          go_meet
          exact ⟨ga, gb, D0, A3, A4, _, C4, D4, VK4, VT4, _, _, rfl, rfl, ⟨HT9.out, PT.out, OT.out, HGga.out, HDG.out⟩, ⟨QT.out, RT.out, hn1, hn2.2, hn4.2⟩, HNE.out, HGgb.out, HBD.out⟩
        · go_simp
          have hb := below1 v3 (.cells #[.int .i64 0, .int .i64 0, .int .i64 0, .int .i64 0, .int .i64 0, .slice none 0 0, .slice none 0 0, .slice none 0 0, .slice none 0 0] 34)
          have H4 := Lib.hid (H3.out.later hb)
          have P4 := Lib.hid (heap_alloc_new v3 (.cells #[.int .i64 0, .int .i64 0, .int .i64 0, .int .i64 0, .int .i64 0, .slice none 0 0, .slice none 0 0, .slice none 0 0, .slice none 0 0] 34))
          have Q4 := Lib.hid ((hb.block _ (Array.getElem?_eq_some_iff.1 Q3.out).1).trans Q3.out)
          have O4 := Lib.hid (O3.out.later hb)
          have E4 := Lib.hid (Nat.le_trans E3.out hb.size)
          refine hK.out _ _ ?_ (fun hHeld => ?_)
          · exact H4.out.cells
          clear hK K
          try simp only [Act.put, List.setIfInBounds_toArray, List.set_cons_zero, List.set_cons_succ, List.getElem_toArray, List.getElem_cons_zero, List.getElem_cons_succ]
          obtain ⟨ga, hga⟩ : ∃ g, v3.heap.size = g := ⟨_, rfl⟩
          have HGga : Hid (w.heap.size + 1 ≤ ga) := Lib.hid (by rw [← hga]; exact H3.out.lt)
          have HNE : Hid (ga ≠ gb) := Lib.hid (by have := (Array.getElem?_eq_some_iff.1 Q3.out).1; omega)
          obtain ⟨v4, hv4⟩ : ∃ W9, World.alloc v3 (.cells #[.int .i64 0, .int .i64 0, .int .i64 0, .int .i64 0, .int .i64 0, .slice none 0 0, .slice none 0 0, .slice none 0 0, .slice none 0 0] 34) = W9 := ⟨_, rfl⟩
          rw [hv4] at hHeld H4 P4 Q4 O4 E4 ⊢
          rw [hga] at P4 ⊢
          clear hga hv4 hb
          refine wpAnyH_ready (rs := [3]) (by kernel_rfl) (by simp) ?_
          refine AllReadyH.cons rfl (fun K hK => ?_) (AllReadyH.nil)
          go_simp
          refine (HMK.out _ (H4.out.here HSM.out)).mono ?_
          rintro e v5 ⟨⟨A4, rfl, C4, D4, VK4, VT4, hown⟩, hb⟩
          have R5 := Lib.hid hown
          have HBD : Hid (D0 ≤ v4.heap.size + 3) := Lib.hid (by have := E4.out; omega)
          have H5 := Lib.hid (H4.out.later hb)
          have P5 := Lib.hid ((hb.block _ (Array.getElem?_eq_some_iff.1 P4.out).1).trans P4.out)
          have Q5 := Lib.hid ((hb.block _ (Array.getElem?_eq_some_iff.1 Q4.out).1).trans Q4.out)
          have O5 := Lib.hid (O4.out.later hb)
          have E5 := Lib.hid (Nat.le_trans E4.out hb.size)
          clear hown hb
          refine hK.out _ _ ?_ (fun hHeld => ?_)
          · exact H5.out.cells
          clear hK K
          try simp only [Act.put, List.setIfInBounds_toArray, List.set_cons_zero, List.set_cons_succ, List.getElem_toArray, List.getElem_cons_zero, List.getElem_cons_succ]
          obtain ⟨n0, n1, n2, n3, n4, n5, n6, n7, n8, nf⟩ := cells9 P5.out
          have PS := Lib.hid (storeI_blk (y0 := .int .i64 m.en) (y1 := .int .i64 m.tm) (y2 := .int .i64 m.tr) (y3 := .int .i64 m.bm) (y4 := .int .i64 m.br) (y5 := .slice A3.sa m.sats.length A3.sc) (y6 := .slice A3.ca m.cus.length A3.cc) (y7 := .slice A3.ka m.cost.length A3.kc) (y8 := .slice A3.ta m.time.length A3.tc) P5.out)
          have QS := Lib.hid ((storeI_other (y0 := .int .i64 m.en) (y1 := .int .i64 m.tm) (y2 := .int .i64 m.tr) (y3 := .int .i64 m.bm) (y4 := .int .i64 m.br) (y5 := .slice A3.sa m.sats.length A3.sc) (y6 := .slice A3.ca m.cus.length A3.cc) (y7 := .slice A3.ka m.cost.length A3.kc) (y8 := .slice A3.ta m.time.length A3.tc) (Ne.symm HNE.out)).trans Q5.out)
          have HS9 := Lib.hid (H5.out.mod (below_storeI (wr := v5) (y0 := .int .i64 m.en) (y1 := .int .i64 m.tm) (y2 := .int .i64 m.tr) (y3 := .int .i64 m.bm) (y4 := .int .i64 m.br) (y5 := .slice A3.sa m.sats.length A3.sc) (y6 := .slice A3.ca m.cus.length A3.cc) (y7 := .slice A3.ka m.cost.length A3.kc) (y8 := .slice A3.ta m.time.length A3.tc) HGga.out))
          have OS := Lib.hid (O5.out.storeI_ (y0 := .int .i64 m.en) (y1 := .int .i64 m.tm) (y2 := .int .i64 m.tr) (y3 := .int .i64 m.bm) (y4 := .int .i64 m.br) (y5 := .slice A3.sa m.sats.length A3.sc) (y6 := .slice A3.ca m.cus.length A3.cc) (y7 := .slice A3.ka m.cost.length A3.kc) (y8 := .slice A3.ta m.time.length A3.tc) P5.out)
          have RS := Lib.hid (R5.out.storeI_ (y0 := .int .i64 m.en) (y1 := .int .i64 m.tm) (y2 := .int .i64 m.tr) (y3 := .int .i64 m.bm) (y4 := .int .i64 m.br) (y5 := .slice A3.sa m.sats.length A3.sc) (y6 := .slice A3.ca m.cus.length A3.cc) (y7 := .slice A3.ka m.cost.length A3.kc) (y8 := .slice A3.ta m.time.length A3.tc) P5.out)
          refine wpAnyH_ready (rs := [6]) (by kernel_rfl) (by simp) ?_
          refine AllReadyH.cons rfl (fun K hK => ?_) (AllReadyH.nil)
          go_simp
          refine hK.out _ _ ?_ (fun hHeld => ?_)
          · exact HS9.out.cells
          clear hK K
          try simp only [Act.put, List.setIfInBounds_toArray, List.set_cons_zero, List.set_cons_succ, List.getElem_toArray, List.getElem_cons_zero, List.getElem_cons_succ]
          clear n0 n1 n2 n3 n4 n5 n6 n7 n8 nf
          obtain ⟨v9, hv9⟩ : ∃ v9, storeI v5 ga (.int .i64 m.en) (.int .i64 m.tm) (.int .i64 m.tr) (.int .i64 m.bm) (.int .i64 m.br) (.slice A3.sa m.sats.length A3.sc) (.slice A3.ca m.cus.length A3.cc) (.slice A3.ka m.cost.length A3.kc) (.slice A3.ta m.time.length A3.tc) = v9 := ⟨_, rfl⟩
          rw [hv9] at PS QS HS9 OS RS
          unfold storeI at hv9
          rw [hv9] at hHeld ⊢
          clear hv9
          obtain ⟨n0, n1, n2, n3, n4, n5, n6, n7, n8, nf⟩ := cells9 QS.out
          have QT := Lib.hid (storeI_blk (y0 := .int .i64 m.en) (y1 := .int .i64 m.tm) (y2 := .int .i64 m.tr) (y3 := .int .i64 m.bm) (y4 := .int .i64 m.br) (y5 := .slice A4.sa m.sats.length A4.sc) (y6 := .slice A4.ca m.cus.length A4.cc) (y7 := .slice A4.ka m.cost.length A4.kc) (y8 := .slice A4.ta m.time.length A4.tc) QS.out)
          have PT := Lib.hid ((storeI_other (y0 := .int .i64 m.en) (y1 := .int .i64 m.tm) (y2 := .int .i64 m.tr) (y3 := .int .i64 m.bm) (y4 := .int .i64 m.br) (y5 := .slice A4.sa m.sats.length A4.sc) (y6 := .slice A4.ca m.cus.length A4.cc) (y7 := .slice A4.ka m.cost.length A4.kc) (y8 := .slice A4.ta m.time.length A4.tc) HNE.out).trans PS.out)
          have HT9 := Lib.hid (HS9.out.mod (below_storeI (wr := v9) (y0 := .int .i64 m.en) (y1 := .int .i64 m.tm) (y2 := .int .i64 m.tr) (y3 := .int .i64 m.bm) (y4 := .int .i64 m.br) (y5 := .slice A4.sa m.sats.length A4.sc) (y6 := .slice A4.ca m.cus.length A4.cc) (y7 := .slice A4.ka m.cost.length A4.kc) (y8 := .slice A4.ta m.time.length A4.tc) HGgb.out))
          have OT := Lib.hid (OS.out.storeI_ (y0 := .int .i64 m.en) (y1 := .int .i64 m.tm) (y2 := .int .i64 m.tr) (y3 := .int .i64 m.bm) (y4 := .int .i64 m.br) (y5 := .slice A4.sa m.sats.length A4.sc) (y6 := .slice A4.ca m.cus.length A4.cc) (y7 := .slice A4.ka m.cost.length A4.kc) (y8 := .slice A4.ta m.time.length A4.tc) QS.out)
          have RT := Lib.hid (RS.out.storeI_ (y0 := .int .i64 m.en) (y1 := .int .i64 m.tm) (y2 := .int .i64 m.tr) (y3 := .int .i64 m.bm) (y4 := .int .i64 m.br) (y5 := .slice A4.sa m.sats.length A4.sc) (y6 := .slice A4.ca m.cus.length A4.cc) (y7 := .slice A4.ka m.cost.length A4.kc) (y8 := .slice A4.ta m.time.length A4.tc) QS.out)
          refine wpAnyH_ready (rs := [7]) (by kernel_rfl) (by simp) ?_
          refine AllReadyH.cons rfl (fun K hK => ?_) (AllReadyH.nil)
          go_simp
          refine hK.out _ _ ?_ (fun hHeld => ?_)
          · exact HT9.out.cells
          clear hK K
          try simp only [Act.put, List.setIfInBounds_toArray, List.set_cons_zero, List.set_cons_succ, List.getElem_toArray, List.getElem_cons_zero, List.getElem_cons_succ]
          refine wpAnyH_done (by kernel_rfl) ?_ _
          clear hHeld n0 n1 n2 n3 n4 n5 n6 n7 n8 nf
          go_wp2_with fail
          go_meet
          exact ⟨ga, gb, D0, A3, A4, _, C4, D4, VK4, VT4, _, _, rfl, rfl, ⟨HT9.out, PT.out, OT.out, HGga.out, HDG.out⟩, ⟨QT.out, RT.out, hn1, hn2.2, hn4.2⟩, HNE.out, HGgb.out, HBD.out⟩
      · go_simp
        have hb := below1 v2 (.cells #[.int .i64 0, .int .i64 0, .int .i64 0, .int .i64 0, .int .i64 0, .slice none 0 0, .slice none 0 0, .slice none 0 0, .slice none 0 0] 34)
        have H3 := Lib.hid (H2.out.later hb)
        have P3 := Lib.hid (heap_alloc_new v2 (.cells #[.int .i64 0, .int .i64 0, .int .i64 0, .int .i64 0, .int .i64 0, .slice none 0 0, .slice none 0 0, .slice none 0 0, .slice none 0 0] 34))
        have Q3 := Lib.hid ((hb.block _ (Array.getElem?_eq_some_iff.1 Q2.out).1).trans Q2.out)
        refine hK.out _ _ ?_ (fun hHeld => ?_)
        · exact H3.out.cells
        clear hK K
        try simp only [Act.put, List.setIfInBounds_toArray, List.set_cons_zero, List.set_cons_succ, List.getElem_toArray, List.getElem_cons_zero, List.getElem_cons_succ]
        obtain ⟨ga, hga⟩ : ∃ g, v2.heap.size = g := ⟨_, rfl⟩
        have HGga : Hid (w.heap.size + 1 ≤ ga) := Lib.hid (by rw [← hga]; exact H2.out.lt)
        have HNE : Hid (ga ≠ gb) := Lib.hid (by have := (Array.getElem?_eq_some_iff.1 Q2.out).1; omega)
        obtain ⟨v3, hv3⟩ : ∃ W9, World.alloc v2 (.cells #[.int .i64 0, .int .i64 0, .int .i64 0, .int .i64 0, .int .i64 0, .slice none 0 0, .slice none 0 0, .slice none 0 0, .slice none 0 0] 34) = W9 := ⟨_, rfl⟩
        rw [hv3] at hHeld H3 P3 Q3 ⊢
        rw [hga] at P3 ⊢
        clear hga hv3 hb
        refine wpAnyH_ready (rs := [1]) (by kernel_rfl) (by simp) ?_
        refine AllReadyH.cons rfl (fun K hK => ?_) (AllReadyH.nil)
        go_simp
        refine (HMK.out _ (H3.out.here HSM.out)).mono ?_
        rintro e v4 ⟨⟨A3, rfl, C3, D3, VK3, VT3, hown⟩, hb⟩
        have O4 := Lib.hid (AOwn.make hown)
        obtain ⟨D0, hD0⟩ : ∃ D0, v4.heap.size = D0 := ⟨_, rfl⟩
        have E4 : Hid (D0 ≤ v4.heap.size) := Lib.hid (by rw [hD0]; exact Nat.le_refl _)
        rw [hD0] at O4
        have H4 := Lib.hid (H3.out.later hb)
        have P4 := Lib.hid ((hb.block _ (Array.getElem?_eq_some_iff.1 P3.out).1).trans P3.out)
        have Q4 := Lib.hid ((hb.block _ (Array.getElem?_eq_some_iff.1 Q3.out).1).trans Q3.out)
        have HDG : Hid (w.heap.size + 1 ≤ D0) := Lib.hid (by rw [← hD0]; exact H4.out.lt)
        clear hD0
        clear hown hb
        refine hK.out _ _ ?_ (fun hHeld => ?_)
        · exact H4.out.cells
        clear hK K
        try simp only [Act.put, List.setIfInBounds_toArray, List.set_cons_zero, List.set_cons_succ, List.getElem_toArray, List.getElem_cons_zero, List.getElem_cons_succ]
        refine wpAnyH_ready (rs := [3]) (by kernel_rfl) (by simp) ?_
        refine AllReadyH.cons rfl (fun K hK => ?_) (AllReadyH.nil)
        go_simp
        refine (HMK.out _ (H4.out.here HSM.out)).mono ?_
        rintro e v5 ⟨⟨A4, rfl, C4, D4, VK4, VT4, hown⟩, hb⟩
        have R5 := Lib.hid hown
        have HBD : Hid (D0 ≤ v4.heap.size + 3) := Lib.hid (by have := E4.out; omega)
        have H5 := Lib.hid (H4.out.later hb)
        have P5 := Lib.hid ((hb.block _ (Array.getElem?_eq_some_iff.1 P4.out).1).trans P4.out)
        have Q5 := Lib.hid ((hb.block _ (Array.getElem?_eq_some_iff.1 Q4.out).1).trans Q4.out)
        have O5 := Lib.hid (O4.out.later hb)
        have E5 := Lib.hid (Nat.le_trans E4.out hb.size)
        clear hown hb
        refine hK.out _ _ ?_ (fun hHeld => ?_)
        · exact H5.out.cells
        clear hK K
        try simp only [Act.put, List.setIfInBounds_toArray, List.set_cons_zero, List.set_cons_succ, List.getElem_toArray, List.getElem_cons_zero, List.getElem_cons_succ]
        obtain ⟨n0, n1, n2, n3, n4, n5, n6, n7, n8, nf⟩ := cells9 P5.out
        have PS := Lib.hid (storeI_blk (y0 := .int .i64 m.en) (y1 := .int .i64 m.tm) (y2 := .int .i64 m.tr) (y3 := .int .i64 m.bm) (y4 := .int .i64 m.br) (y5 := .slice A3.sa m.sats.length A3.sc) (y6 := .slice A3.ca m.cus.length A3.cc) (y7 := .slice A3.ka m.cost.length A3.kc) (y8 := .slice A3.ta m.time.length A3.tc) P5.out)
        have QS := Lib.hid ((storeI_other (y0 := .int .i64 m.en) (y1 := .int .i64 m.tm) (y2 := .int .i64 m.tr) (y3 := .int .i64 m.bm) (y4 := .int .i64 m.br) (y5 := .slice A3.sa m.sats.length A3.sc) (y6 := .slice A3.ca m.cus.length A3.cc) (y7 := .slice A3.ka m.cost.length A3.kc) (y8 := .slice A3.ta m.time.length A3.tc) (Ne.symm HNE.out)).trans Q5.out)
        have HS9 := Lib.hid (H5.out.mod (below_storeI (wr := v5) (y0 := .int .i64 m.en) (y1 := .int .i64 m.tm) (y2 := .int .i64 m.tr) (y3 := .int .i64 m.bm) (y4 := .int .i64 m.br) (y5 := .slice A3.sa m.sats.length A3.sc) (y6 := .slice A3.ca m.cus.length A3.cc) (y7 := .slice A3.ka m.cost.length A3.kc) (y8 := .slice A3.ta m.time.length A3.tc) HGga.out))
        have OS := Lib.hid (O5.out.storeI_ (y0 := .int .i64 m.en) (y1 := .int .i64 m.tm) (y2 := .int .i64 m.tr) (y3 := .int .i64 m.bm) (y4 := .int .i64 m.br) (y5 := .slice A3.sa m.sats.length A3.sc) (y6 := .slice A3.ca m.cus.length A3.cc) (y7 := .slice A3.ka m.cost.length A3.kc) (y8 := .slice A3.ta m.time.length A3.tc) P5.out)
        have RS := Lib.hid (R5.out.storeI_ (y0 := .int .i64 m.en) (y1 := .int .i64 m.tm) (y2 := .int .i64 m.tr) (y3 := .int .i64 m.bm) (y4 := .int .i64 m.br) (y5 := .slice A3.sa m.sats.length A3.sc) (y6 := .slice A3.ca m.cus.length A3.cc) (y7 := .slice A3.ka m.cost.length A3.kc) (y8 := .slice A3.ta m.time.length A3.tc) P5.out)
        refine wpAnyH_ready (rs := [6]) (by kernel_rfl) (by simp) ?_
        refine AllReadyH.cons rfl (fun K hK => ?_) (AllReadyH.nil)
        go_simp
        refine hK.out _ _ ?_ (fun hHeld => ?_)
        · exact HS9.out.cells
        clear hK K
        try simp only [Act.put, List.setIfInBounds_toArray, List.set_cons_zero, List.set_cons_succ, List.getElem_toArray, List.getElem_cons_zero, List.getElem_cons_succ]
        clear n0 n1 n2 n3 n4 n5 n6 n7 n8 nf
        obtain ⟨v9, hv9⟩ : ∃ v9, storeI v5 ga (.int .i64 m.en) (.int .i64 m.tm) (.int .i64 m.tr) (.int .i64 m.bm) (.int .i64 m.br) (.slice A3.sa m.sats.length A3.sc) (.slice A3.ca m.cus.length A3.cc) (.slice A3.ka m.cost.length A3.kc) (.slice A3.ta m.time.length A3.tc) = v9 := ⟨_, rfl⟩
        rw [hv9] at PS QS HS9 OS RS
        unfold storeI at hv9
        rw [hv9] at hHeld ⊢
        clear hv9
        obtain ⟨n0, n1, n2, n3, n4, n5, n6, n7, n8, nf⟩ := cells9 QS.out
        have QT := Lib.hid (storeI_blk (y0 := .int .i64 m.en) (y1 := .int .i64 m.tm) (y2 := .int .i64 m.tr) (y3 := .int .i64 m.bm) (y4 := .int .i64 m.br) (y5 := .slice A4.sa m.sats.length A4.sc) (y6 := .slice A4.ca m.cus.length A4.cc) (y7 := .slice A4.ka m.cost.length A4.kc) (y8 := .slice A4.ta m.time.length A4.tc) QS.out)
        have PT := Lib.hid ((storeI_other (y0 := .int .i64 m.en) (y1 := .int .i64 m.tm) (y2 := .int .i64 m.tr) (y3 := .int .i64 m.bm) (y4 := .int .i64 m.br) (y5 := .slice A4.sa m.sats.length A4.sc) (y6 := .slice A4.ca m.cus.length A4.cc) (y7 := .slice A4.ka m.cost.length A4.kc) (y8 := .slice A4.ta m.time.length A4.tc) HNE.out).trans PS.out)
        have HT9 := Lib.hid (HS9.out.mod (below_storeI (wr := v9) (y0 := .int .i64 m.en) (y1 := .int .i64 m.tm) (y2 := .int .i64 m.tr) (y3 := .int .i64 m.bm) (y4 := .int .i64 m.br) (y5 := .slice A4.sa m.sats.length A4.sc) (y6 := .slice A4.ca m.cus.length A4.cc) (y7 := .slice A4.ka m.cost.length A4.kc) (y8 := .slice A4.ta m.time.length A4.tc) HGgb.out))
        have OT := Lib.hid (OS.out.storeI_ (y0 := .int .i64 m.en) (y1 := .int .i64 m.tm) (y2 := .int .i64 m.tr) (y3 := .int .i64 m.bm) (y4 := .int .i64 m.br) (y5 := .slice A4.sa m.sats.length A4.sc) (y6 := .slice A4.ca m.cus.length A4.cc) (y7 := .slice A4.ka m.cost.length A4.kc) (y8 := .slice A4.ta m.time.length A4.tc) QS.out)
        have RT := Lib.hid (RS.out.storeI_ (y0 := .int .i64 m.en) (y1 := .int .i64 m.tm) (y2 := .int .i64 m.tr) (y3 := .int .i64 m.bm) (y4 := .int .i64 m.br) (y5 := .slice A4.sa m.sats.length A4.sc) (y6 := .slice A4.ca m.cus.length A4.cc) (y7 := .slice A4.ka m.cost.length A4.kc) (y8 := .slice A4.ta m.time.length A4.tc) QS.out)
        refine wpAnyH_ready (rs := [7]) (by kernel_rfl) (by simp) ?_
        refine AllReadyH.cons rfl (fun K hK => ?_) (AllReadyH.nil)
        go_simp
        refine hK.out _ _ ?_ (fun hHeld => ?_)
        · exact HT9.out.cells
        clear hK K
        try simp only [Act.put, List.setIfInBounds_toArray, List.set_cons_zero, List.set_cons_succ, List.getElem_toArray, List.getElem_cons_zero, List.getElem_cons_succ]
        refine wpAnyH_done (by kernel_rfl) ?_ _
        clear hHeld n0 n1 n2 n3 n4 n5 n6 n7 n8 nf
        go_wp2_with fail
        go_meet
        exact ⟨ga, gb, D0, A3, A4, _, C4, D4, VK4, VT4, _, _, rfl, rfl, ⟨HT9.out, PT.out, OT.out, HGga.out, HDG.out⟩, ⟨QT.out, RT.out, hn1, hn2.2, hn4.2⟩, HNE.out, HGgb.out, HBD.out⟩
  case rest =>
    obtain ⟨ga, gb, D0, A3, A4, B, C, D, VK, VT, LK, LT, hp, hq, hAW, hFr, hne, hgb, hDB⟩ := hcut
    subst hp hq
    have HAW := Lib.hid hAW
    have HF := Lib.hid hFr
    have HNE := Lib.hid hne
    have HGB := Lib.hid hgb
    have HDB := Lib.hid hDB
    clear hAW hFr hne hgb hDB
    try clear HS1
    obtain ⟨k0, k1, k2, k3, k4, k5, k6, k7, k8⟩ := HF.out.fin.cells
    have hfz := HF.out.frozen 0
    have hfy := (HF.out.en_ (m.en + n)).frozen 4
    have hen := HLOW.out.en
    have hbr := HLW2.out.br
    go_upto_region 6 with fail
    have HF2 := Lib.hid ((HF.out.en_ (m.en + n)).br_ (m.br + n))
    have HAW2 := Lib.hid ((HAW.out.box HF.out.box HGB.out HNE.out 0 (.int .i64 (m.en + n))).box (HF.out.en_ (m.en + n)).box HGB.out HNE.out 4 (.int .i64 (m.br + n)))
    obtain ⟨W2, hW2⟩ : ∃ W2, (wc.setCell ⟨gb, 0, none⟩ (.int .i64 (m.en + n))).setCell ⟨gb, 4, none⟩ (.int .i64 (m.br + n)) = W2 := ⟨_, rfl⟩
    rw [hW2] at HF2 HAW2 ⊢
    clear hW2 hfz hfy k0 k1 k2 k3 k4 k5 k6 k7 k8 HF HAW
    obtain ⟨c, hc, hcN⟩ := mod_natR at_ m.cus.length (by omega) ha1.1
    have hc1 := hc.1
    have hc2 := hc.2
    clear hc
    obtain ⟨p, hp⟩ : ∃ p, m.cus[c]? = some p := ⟨_, List.getElem?_eq_getElem hcN⟩
    have hcl := HLW2.out.close p (List.mem_of_getElem? hp)
    have hcl0 : 0 ≤ p.2.2.1 := by
      have h := HM.out.cus p (List.mem_of_getElem? hp)
      simp only [cusB, inB_, Bool.and_eq_true, decide_eq_true_eq] at h
      omega
    have hpo : ({ m with en := m.en + n, br := m.br + n } : Ins).cus[c]? = some p := hp
    obtain ⟨g, hga, hc0, hf0, hfin⟩ := HF2.out.close_ hpo (p.2.2.1 + n)
    have hge := HF2.out.cus_geR hga
    have hty : ga ≠ g := by
      have hcb := HF2.out.own.cus
      rw [hga] at hcb
      obtain ⟨cur, hcur⟩ := own_block hcb (g := g) rfl
      exact blk_types HAW2.out.a hcur (by decide)
    have HF3 : Hid (Fresh (W2.setCell ⟨g, c * 4 + 2, none⟩ (.int .i64 (p.2.2.1 + n))) gb B A4 (moreI m c p n) N C D VK VT LK LT) := Lib.hid hfin
    have HAW3 := Lib.hid (HAW2.out.set_ (Nat.le_trans HDB.out hge) hty (c * 4 + 2) (.int .i64 (p.2.2.1 + n)))
    have HMY := Lib.hid (moreI_may HM.out HLOW.out HLW2.out hp hz1)
    have HLESS := Lib.hid (fun (zs ys : List Nat) (i a b : Nat) (h1 : SetsOf m zs) (h2 : SetsOf (moreI m c p n) ys) (h3 : i < m.sats.length) (h4 : zs[i]? = some a) (h5 : ys[i]? = some b) => moreI_less hp hz1.1 h1 h2 h3 h4 h5)
    have hm5s : (moreI m c p n).sats.length = m.sats.length := rfl
    obtain ⟨k0, k1, k2, k3, k4, k5, k6, k7, k8⟩ := HF2.out.fin.cells
    dsimp only at k0 k1 k2 k3 k4 k5 k6 k7 k8
    rw [hga] at k6
    clear hfin hga hty hpo hge
    go_upto_region 8 with fail
    obtain ⟨W3, hW3⟩ : ∃ W3, W2.setCell ⟨g, c * 4 + 2, none⟩ (.int .i64 (p.2.2.1 + n)) = W3 := ⟨_, rfl⟩
    rw [hW3] at HF3 HAW3 ⊢
    obtain ⟨m5, hm5⟩ : ∃ m5, moreI m c p n = m5 := ⟨_, rfl⟩
    rw [hm5] at HF3 HMY HLESS hm5s
    have HM5S := Lib.hid hm5s
    clear hm5s
    clear hW3 hm5 hc0 hf0 hp k0 k1 k2 k3 k4 k5 k6 k7 k8 HF2 HAW2
    have HA0 := Lib.hid (HAW3.out.later (Below.refl _ W3).drew)
    have HD0 := Lib.hid (HF3.out.fin.later (Below.refl _ W3).drew)
    refine wp_region_held_drew (S := (fun Wz => Wz.heap[ga]? = some (.cells #[.int .i64 m.en, .int .i64 m.tm, .int .i64 m.tr, .int .i64 m.bm, .int .i64 m.br, .slice A3.sa m.sats.length A3.sc, .slice A3.ca m.cus.length A3.cc, .slice A3.ka m.cost.length A3.kc, .slice A3.ta m.time.length A3.tc] 34 (0, 0)) ∧ Wz.heap[gb]? = some (.cells #[.int .i64 m5.en, .int .i64 m5.tm, .int .i64 m5.tr, .int .i64 m5.bm, .int .i64 m5.br, .slice A4.sa m5.sats.length A4.sc, .slice A4.ca m5.cus.length A4.cc, .slice A4.ka m5.cost.length A4.kc, .slice A4.ta m5.time.length A4.tc] 34 (0, 0)))) (by kernel_rfl) ⟨HA0.out.a, HD0.out.box⟩ (fun hHeld => ?_)
    refine wpAnyH_take (i := 0) (v := ?_) rfl (by kernel_rfl) (by kernel_rfl) (by kernel_rfl) (fun _ _ _ h => h) (Or.inl ⟨by rfl, ?_⟩) hHeld ?_
    rotate_left
    · intro Wz hWz; obtain ⟨k0, k1, k2, k3, k4, k5, k6, k7, k8, _⟩ := cells9 hWz.1; clear hWz; go_simp; (try with_reducible rfl)
    try simp only [Act.put, List.setIfInBounds_toArray, List.set_cons_zero, List.set_cons_succ, List.getElem_toArray, List.getElem_cons_zero]
    refine wpAnyH_take (i := 2) (v := ?_) rfl (by kernel_rfl) (by kernel_rfl) (by kernel_rfl) (fun _ _ _ h => h) (Or.inl ⟨by rfl, ?_⟩) hHeld ?_
    rotate_left
    · intro Wz hWz; obtain ⟨k0, k1, k2, k3, k4, k5, k6, k7, k8, _⟩ := cells9 hWz.2; clear hWz; go_simp; (try with_reducible rfl)
    try simp only [Act.put, List.setIfInBounds_toArray, List.set_cons_zero, List.set_cons_succ, List.getElem_toArray, List.getElem_cons_zero, List.getElem_cons_succ]
    refine wpAnyH_ready (rs := [1]) (by kernel_rfl) (by simp) ?_
    refine AllReadyH.cons rfl (fun K hK => ?_) (AllReadyH.nil)
    go_simp
    refine (HH.out.mays A3 m _ HA0.out.ao.is_ HM.out).mono ?_
    rintro e w6 ⟨zs, a6, c6, rfl, hset, hof, hb⟩
    have HA1 := Lib.hid (HA0.out.later hb)
    have HD1 := Lib.hid (HD0.out.later hb)
    have HZ6 := Lib.hid hset
    have HO6 := Lib.hid hof
    have hzl := hof.1
    clear hset hof hb
    refine hK.out _ _ ?_ (fun hHeld => ?_)
    · exact ⟨HA1.out.a, HD1.out.box⟩
    clear hK K
    try simp only [Act.put, List.setIfInBounds_toArray, List.set_cons_zero, List.set_cons_succ, List.getElem_toArray, List.getElem_cons_zero, List.getElem_cons_succ]
    refine wpAnyH_ready (rs := [3]) (by kernel_rfl) (by simp) ?_
    refine AllReadyH.cons rfl (fun K hK => ?_) (AllReadyH.nil)
    go_simp
    refine (HH.out.mays A4 m5 _ HD1.out.is_ HMY.out).mono ?_
    rintro e w7 ⟨ys, a7, c7, rfl, hset, hof, hb⟩
    have HA2 := Lib.hid (HA1.out.later hb)
    have HD2 := Lib.hid (HD1.out.later hb)
    have HZ7 := Lib.hid ((HZ6.out.later hb).mono hb.size)
    have HY7 := Lib.hid hset
    have HO7 := Lib.hid hof
    have hyl := hof.1
    rw [HM5S.out] at hyl
    clear hset hof hb
    refine hK.out _ _ ?_ (fun hHeld => ?_)
    · exact ⟨HA2.out.a, HD2.out.box⟩
    clear hK K
    try simp only [Act.put, List.setIfInBounds_toArray, List.set_cons_zero, List.set_cons_succ, List.getElem_toArray, List.getElem_cons_zero, List.getElem_cons_succ]
    refine wpAnyH_take (i := 4) (v := ?_) rfl (by kernel_rfl) (by kernel_rfl) (by kernel_rfl) (fun _ _ _ h => h) (Or.inl ⟨by rfl, ?_⟩) hHeld ?_
    rotate_left
    · intro Wz hWz; clear hWz; go_simp; (try with_reducible rfl)
    try simp only [Act.put, List.setIfInBounds_toArray, List.set_cons_zero, List.set_cons_succ, List.getElem_toArray, List.getElem_cons_zero, List.getElem_cons_succ]
    refine wpAnyH_take (i := 5) (v := ?_) rfl (by kernel_rfl) (by kernel_rfl) (by kernel_rfl) (fun _ _ _ h => h) (Or.inl ⟨by rfl, ?_⟩) hHeld ?_
    rotate_left
    · intro Wz hWz; clear hWz; go_simp; (try with_reducible rfl)
    try simp only [Act.put, List.setIfInBounds_toArray, List.set_cons_zero, List.set_cons_succ, List.getElem_toArray, List.getElem_cons_zero, List.getElem_cons_succ]
    refine wpAnyH_done (by kernel_rfl) ?_ _
    clear hHeld
    try simp only [hyl]
    obtain ⟨k0, k1, k2, k3, k4, k5, k6, k7, k8, _⟩ := cells9 HA2.out.a
    have hzs : ∃ b5 o5, a6 = some ⟨b5, o5, none⟩ ∧ b5 < w7.heap.size ∧ ∀ (j : Nat) (z : Nat), zs[j]? = some z → w7.cell? ⟨b5, o5 + j, none⟩ = some (.int .u64 (z : Int)) := by
      rcases HZ7.out.2.2 with h | ⟨b, off, e, h1, h2⟩
      · omega
      · exact ⟨b, off, e, h1, h2⟩
    have hys : ∃ b5 o5, a7 = some ⟨b5, o5, none⟩ ∧ b5 < w7.heap.size ∧ ∀ (j : Nat) (z : Nat), ys[j]? = some z → w7.cell? ⟨b5, o5 + j, none⟩ = some (.int .u64 (z : Int)) := by
      rcases HY7.out.2.2 with h | ⟨b, off, e, h1, h2⟩
      · omega
      · exact ⟨b, off, e, h1, h2⟩
    obtain ⟨b6, o6, rfl, hb6, hc6⟩ := hzs
    obtain ⟨b7, o7, rfl, hb7, hc7⟩ := hys
    have HC6 := Lib.hid hc6
    have HC7 := Lib.hid hc7
    have LB6 := Lib.hid hb6
    have LB7 := Lib.hid hb7
    have hne : ((m.sats.length : Int) != m.sats.length) = false := by simp
    clear hb6 hc6 hb7 hc7
    go_wp2_with fail
    clear k0 k1 k2 k3 k4 k5 k6 k7 k8
    go_loopw [69] (fun iv wr => ∃ i : Nat, iv = .int .i64 (i : Int) ∧ i ≤ m.sats.length ∧ Hid (Below w7.heap.size w7 wr)) (fun iv _ => m.sats.length - (intOf iv).toNat)
    case atStart => exact ⟨0, rfl, Nat.zero_le _, Lib.hid (Below.refl _ _)⟩
    case round =>
      obtain ⟨i, rfl, hi, HB⟩ := hrel
      by_cases hil : i < m.sats.length
      · obtain ⟨a, ha⟩ : ∃ a, zs[i]? = some a := ⟨_, List.getElem?_eq_getElem (by omega)⟩
        obtain ⟨b, hb⟩ : ∃ b, ys[i]? = some b := ⟨_, List.getElem?_eq_getElem (by omega)⟩
        have hlt1 := HZ7.out.2.1 a (List.mem_of_getElem? ha)
        have hlt2 := HY7.out.2.1 b (List.mem_of_getElem? hb)
        have hz := less_none hlt1 hlt2 (HLESS.out zs ys i a b HO6.out HO7.out hil ha hb)
        have HLS := Lib.hid (fun W => less_any a b hlt1 hlt2 W)
        rw [hz] at HLS
        have HBD := Lib.hid (HB.out.drew)
        have d1 := (HBD.out.cell (p := ⟨b6, o6 + i, none⟩) LB6.out).trans (HC6.out i a ha)
        have d2 := (HBD.out.cell (p := ⟨b7, o7 + i, none⟩) LB7.out).trans (HC7.out i b hb)
        clear ha hb hz
        go_upto_region 14 with fail
        refine wp_region_held_drew (S := (fun Wz => Wz.cell? ⟨b6, o6 + i, none⟩ = some (.int .u64 (a : Int)) ∧ Wz.cell? ⟨b7, o7 + i, none⟩ = some (.int .u64 (b : Int)))) (by kernel_rfl) ⟨d1, d2⟩ (fun hHeld => ?_)
        refine wpAnyH_take (i := 0) (v := ?_) rfl (by kernel_rfl) (by kernel_rfl) (by kernel_rfl) (fun _ _ _ h => h) (Or.inl ⟨by rfl, ?_⟩) hHeld ?_
        rotate_left
        · intro Wz hWz; clear hWz; go_simp; (try with_reducible rfl)
        try simp only [Act.put, List.setIfInBounds_toArray, List.set_cons_zero, List.set_cons_succ, List.getElem_toArray, List.getElem_cons_zero]
        refine wpAnyH_take (i := 1) (v := ?_) rfl (by kernel_rfl) (by kernel_rfl) (by kernel_rfl) (fun _ _ _ h => h) (Or.inl ⟨by rfl, ?_⟩) hHeld ?_
        rotate_left
        · intro Wz hWz; clear hWz; go_simp; (try with_reducible rfl)
        try simp only [Act.put, List.setIfInBounds_toArray, List.set_cons_zero, List.set_cons_succ, List.getElem_toArray, List.getElem_cons_zero, List.getElem_cons_succ]
        refine wpAnyH_take (i := 2) (v := ?_) rfl (by kernel_rfl) (by kernel_rfl) (by kernel_rfl) (fun _ _ _ h => h) (Or.inl ⟨by rfl, ?_⟩) hHeld ?_
        rotate_left
        · intro Wz hWz; clear hWz; go_simp; (try with_reducible rfl)
        try simp only [Act.put, List.setIfInBounds_toArray, List.set_cons_zero, List.set_cons_succ, List.getElem_toArray, List.getElem_cons_zero, List.getElem_cons_succ]
        refine wpAnyH_take (i := 3) (v := ?_) rfl (by kernel_rfl) (by kernel_rfl) (by kernel_rfl) (fun _ _ _ h => h) (Or.inl ⟨by rfl, ?_⟩) hHeld ?_
        rotate_left
        · intro Wz hWz; have r1 := hWz.1; clear hWz; go_simp; (try with_reducible rfl)
        try simp only [Act.put, List.setIfInBounds_toArray, List.set_cons_zero, List.set_cons_succ, List.getElem_toArray, List.getElem_cons_zero, List.getElem_cons_succ]
        refine wpAnyH_take (i := 4) (v := ?_) rfl (by kernel_rfl) (by kernel_rfl) (by kernel_rfl) (fun _ _ _ h => h) (Or.inl ⟨by rfl, ?_⟩) hHeld ?_
        rotate_left
        · intro Wz hWz; clear hWz; go_simp; (try with_reducible rfl)
        try simp only [Act.put, List.setIfInBounds_toArray, List.set_cons_zero, List.set_cons_succ, List.getElem_toArray, List.getElem_cons_zero, List.getElem_cons_succ]
        refine wpAnyH_take (i := 5) (v := ?_) rfl (by kernel_rfl) (by kernel_rfl) (by kernel_rfl) (fun _ _ _ h => h) (Or.inl ⟨by rfl, ?_⟩) hHeld ?_
        rotate_left
        · intro Wz hWz; clear hWz; go_simp; (try with_reducible rfl)
        try simp only [Act.put, List.setIfInBounds_toArray, List.set_cons_zero, List.set_cons_succ, List.getElem_toArray, List.getElem_cons_zero, List.getElem_cons_succ]
        refine wpAnyH_take (i := 6) (v := ?_) rfl (by kernel_rfl) (by kernel_rfl) (by kernel_rfl) (fun _ _ _ h => h) (Or.inl ⟨by rfl, ?_⟩) hHeld ?_
        rotate_left
        · intro Wz hWz; clear hWz; go_simp; (try with_reducible rfl)
        try simp only [Act.put, List.setIfInBounds_toArray, List.set_cons_zero, List.set_cons_succ, List.getElem_toArray, List.getElem_cons_zero, List.getElem_cons_succ]
        refine wpAnyH_take (i := 7) (v := ?_) rfl (by kernel_rfl) (by kernel_rfl) (by kernel_rfl) (fun _ _ _ h => h) (Or.inl ⟨by rfl, ?_⟩) hHeld ?_
        rotate_left
        · intro Wz hWz; have r1 := hWz.2; clear hWz; go_simp; (try with_reducible rfl)
        try simp only [Act.put, List.setIfInBounds_toArray, List.set_cons_zero, List.set_cons_succ, List.getElem_toArray, List.getElem_cons_zero, List.getElem_cons_succ]
        refine wpAnyH_ready (rs := [8]) (by kernel_rfl) (by simp) ?_
        refine AllReadyH.cons rfl (fun K hK => ?_) (AllReadyH.nil)
        go_simp
        refine (HLS.out _).mono ?_
        rintro e w8 ⟨rfl, rfl⟩
        refine hK.out _ _ ?_ (fun hHeld => ?_)
        · exact ⟨d1, d2⟩
        clear hK K
        try simp only [Act.put, List.setIfInBounds_toArray, List.set_cons_zero, List.set_cons_succ, List.getElem_toArray, List.getElem_cons_zero, List.getElem_cons_succ]
        refine wpAnyH_take (i := 9) (v := ?_) rfl (by kernel_rfl) (by kernel_rfl) (by kernel_rfl) (fun _ _ _ h => h) (Or.inl ⟨by rfl, ?_⟩) hHeld ?_
        rotate_left
        · intro Wz hWz; clear hWz; go_simp; (try with_reducible rfl)
        try simp only [Act.put, List.setIfInBounds_toArray, List.set_cons_zero, List.set_cons_succ, List.getElem_toArray, List.getElem_cons_zero, List.getElem_cons_succ]
        refine wpAnyH_done (by kernel_rfl) ?_ _
        clear hHeld
        go_wp2_with fail
        go_roundw
        case rel => exact ⟨i + 1, by go_num, by omega, HBD⟩
        case measure => simp [intOf]; omega
      · obtain rfl : i = m.sats.length := by omega
        go_wp2_with fail
        go_ret
        exact ⟨rfl, HA2.out.sb.below.trans (HB.out.mono HA2.out.sb.below.size)⟩
end Go.Proofs.Ytchdpapaojkbhaa
