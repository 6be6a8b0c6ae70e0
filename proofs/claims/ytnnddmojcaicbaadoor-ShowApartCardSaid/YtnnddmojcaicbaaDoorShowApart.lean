/- The walk of the law on instances that are told alike. -/
import Derived.Test.YtnnddmojcaicbaaDoorApartT
import Derived.Test.YtnnddmojcaicbaaDoorShowAwake
import Derived.Deep.RegionHeld3
import Derived.Deep.RegionWith
import Derived.Deep.CutRange
namespace Go.Proofs.YtnnddmojcaicbaaDoor
open Go.RowKit

theorem cells18 {w W : World} {D0 ga gb : Nat} {AS : SmA} {s : Sm} {A3 A5 : InA} {m m5 : Ins} (h : BW w W D0 ga AS s A3 m) (h2 : Fin W gb A5 m5) : (W.cell? ⟨ga, 0, none⟩ = some (.int .i64 m.en) ∧ W.cell? ⟨ga, 1, none⟩ = some (.int .i64 m.tm) ∧ W.cell? ⟨ga, 2, none⟩ = some (.int .i64 m.tr) ∧ W.cell? ⟨ga, 3, none⟩ = some (.int .i64 m.bm) ∧ W.cell? ⟨ga, 4, none⟩ = some (.int .i64 m.br) ∧ W.cell? ⟨ga, 5, none⟩ = some (.slice A3.sa m.sats.length A3.sc) ∧ W.cell? ⟨ga, 6, none⟩ = some (.slice A3.ca m.cus.length A3.cc) ∧ W.cell? ⟨ga, 7, none⟩ = some (.slice A3.ka m.cost.length A3.kc) ∧ W.cell? ⟨ga, 8, none⟩ = some (.slice A3.ta m.time.length A3.tc)) ∧ (W.cell? ⟨gb, 0, none⟩ = some (.int .i64 m5.en) ∧ W.cell? ⟨gb, 1, none⟩ = some (.int .i64 m5.tm) ∧ W.cell? ⟨gb, 2, none⟩ = some (.int .i64 m5.tr) ∧ W.cell? ⟨gb, 3, none⟩ = some (.int .i64 m5.bm) ∧ W.cell? ⟨gb, 4, none⟩ = some (.int .i64 m5.br) ∧ W.cell? ⟨gb, 5, none⟩ = some (.slice A5.sa m5.sats.length A5.sc) ∧ W.cell? ⟨gb, 6, none⟩ = some (.slice A5.ca m5.cus.length A5.cc) ∧ W.cell? ⟨gb, 7, none⟩ = some (.slice A5.ka m5.cost.length A5.kc) ∧ W.cell? ⟨gb, 8, none⟩ = some (.slice A5.ta m5.time.length A5.tc)) :=
  ⟨by simp [World.cell?, h.a], h2.cells⟩
theorem Fresh.vt_geA {wr : World} {gx B N C D i : Nat} {A : InA} {x : Ins} {VK VT : Nat → Nat} {LK LT : Nat → Nat → Int} (h : Fresh wr gx B A x N C D VK VT LK LT) (hi : i < N) : B ≤ VT i := Nat.le_trans h.own.bc (Nat.le_trans h.own.cd (h.own.time.row i hi).2)
theorem Fresh.cus_geA {wr : World} {gx B N C D g : Nat} {A : InA} {x : Ins} {VK VT : Nat → Nat} {LK LT : Nat → Nat → Int} (h : Fresh wr gx B A x N C D VK VT LK LT) (e : A.ca = some ⟨g, 0, none⟩) : B ≤ g := by
  have hs := h.own.cus
  rw [e] at hs
  exact (World.ownsRow.lt hs g rfl).1
theorem mod_natA (a : Int) (n : Nat) (h : 0 < n) (ha : 0 ≤ a) : ∃ k : Nat, (a.tmod (n : Int) = (k : Int) ∧ a % (n : Int) = (k : Int)) ∧ k < n := by
  rw [Int.tmod_eq_emod_of_nonneg ha]
  have h1 := Int.emod_nonneg a (show (n : Int) ≠ 0 by omega)
  have h2 := Int.emod_lt_of_pos a (show (0 : Int) < (n : Int) by omega)
  exact ⟨(a % (n : Int)).toNat, ⟨by omega, by omega⟩, by omega⟩
set_option maxHeartbeats 8000000 in
set_option maxRecDepth 100000 in
theorem showApart_walk (H : ShowSpec) (A : SmA) (s : Sm) (what at_ n : Int) (hw1 : 0 ≤ what ∧ what ≤ 255) (ha1 : 0 ≤ at_ ∧ at_ ≤ 255) (hz1 : 0 ≤ n ∧ n ≤ 255) (w : World) (hs : IsSm w.heap.size w A s) (ht : Tab w) :
    Calls Tryd.prog 7 #[.agg (smC A s), .int .u8 what, .int .u8 at_, .int .u8 n] w (Holds w) := by
  have HT := Lib.hid ht
  have HH := Lib.hid H
  have HS := Lib.hid (SBox.make w A s)
  have HSM := Lib.hid hs
  have HMK := Lib.hid (fun (W : World) (h : IsSm W.heap.size W A s) => make_any A s W h)
  have HLM := Lib.hid (makeI_light s)
  have HM := Lib.hid (may_make hs.okl)
  have HLOW := Lib.hid (makeI_low hs.okl)
  have hn1 : (makeI s).sats.length ≤ 3 := (satsOf_le s).2
  have hn2 : 1 ≤ (makeI s).cus.length ∧ (makeI s).cus.length ≤ 6 := cusOf_le s
  have hn4 : 3 ≤ nodesOf s ∧ nodesOf s ≤ 10 := nodes_le s
  have hn5 : nodesOf s = 1 + (makeI s).sats.length + (makeI s).cus.length := rfl
  obtain ⟨m, hm⟩ : ∃ m, makeI s = m := ⟨_, rfl⟩
  obtain ⟨N, hN⟩ : ∃ N, nodesOf s = N := ⟨_, rfl⟩
  rw [hm] at hn1 hn2 HMK HLM HM HLOW
  rw [hm, hN] at hn5
  rw [hN] at hn4 HMK
  have HN6 : Hid (m.nodes = N) := Lib.hid hn5.symm
  clear hm hN hn5 hs ht H
  unfold Holds
  unfold smC insC at *
  go_enter Tryd.func7, Tryd.ntmps7
  go_wp2_with (go_at_call 8; refine (show_awake HH.out _ (HT.out.later HS.out.below)).mono ?_; rintro e w1 ⟨rfl, hb1⟩; have HS1 := Lib.hid (HS.out.later hb1); clear hb1 HS)
  go_upto_region 3 with fail
  go_cut [9, 10] from 13 to 16 (fun p q wx => ∃ ga gb D0 A3 A4 B C D VK VT LK LT, p = .pointer (some ⟨ga, 0, none⟩) ∧ q = .pointer (some ⟨gb, 0, none⟩) ∧ BW w wx D0 ga A s A3 m ∧ Fresh wx gb B A4 m N C D VK VT LK LT ∧ ga ≠ gb ∧ w.heap.size + 1 ≤ gb ∧ D0 ≤ B)
  case first =>
    have HD1 := Lib.hid (HS1.out.later (Below.refl _ w1).drew)
    obtain ⟨v1, hv1⟩ : ∃ v1, World.drew w1 = v1 := ⟨_, rfl⟩
    have H1 := HD1
    rw [hv1] at H1
    refine wp_region_held_drew (S := fun W => W.cell? ⟨w.heap.size, 0, none⟩ = some (.int .u8 s.e) ∧ W.cell? ⟨w.heap.size, 1, none⟩ = some (.int .u8 s.t) ∧ W.cell? ⟨w.heap.size, 2, none⟩ = some (.int .u8 s.tr) ∧ W.cell? ⟨w.heap.size, 3, none⟩ = some (.int .u8 s.b) ∧ W.cell? ⟨w.heap.size, 4, none⟩ = some (.int .u8 s.br) ∧ W.cell? ⟨w.heap.size, 5, none⟩ = some (.slice A.sa s.sats.length A.sc) ∧ W.cell? ⟨w.heap.size, 6, none⟩ = some (.slice A.wa s.whos.length A.wc) ∧ W.cell? ⟨w.heap.size, 7, none⟩ = some (.slice A.ca A.cn A.cc) ∧ W.cell? ⟨w.heap.size, 8, none⟩ = some (.slice A.ta A.tn A.tc) ∧ W.cell? ⟨w.heap.size, 9, none⟩ = some (.bool s.tight) ∧ W.cell? ⟨w.heap.size, 10, none⟩ = some (.bool s.loose)) (by kernel_rfl) HD1.out.cells (fun hHeld => ?_)
    rw [hv1] at hHeld ⊢
    clear hv1 HD1 HS1
    refine wpAnyH_take (i := 0) (v := ?_) rfl (by kernel_rfl) (by kernel_rfl) (by kernel_rfl) (fun _ _ _ h => h) (Or.inl ⟨by rfl, ?_⟩) hHeld ?_
    rotate_left
    · intro W0 hW; obtain ⟨hW0, hW1, hW2, hW3, hW4, hW5, hW6, hW7, hW8, hW9, hW10⟩ := hW; go_simp; (try with_reducible rfl)
    try simp only [Act.put, List.setIfInBounds_toArray, List.set_cons_zero, List.set_cons_succ, List.getElem_toArray, List.getElem_cons_zero]
    refine wpAnyH_take (i := 2) (v := ?_) rfl (by kernel_rfl) (by kernel_rfl) (by kernel_rfl) (fun _ _ _ h => h) (Or.inl ⟨by rfl, ?_⟩) hHeld ?_
    rotate_left
    · intro W0 hW; obtain ⟨hW0, hW1, hW2, hW3, hW4, hW5, hW6, hW7, hW8, hW9, hW10⟩ := hW; go_simp; (try with_reducible rfl)
    try simp only [Act.put, List.setIfInBounds_toArray, List.set_cons_zero, List.set_cons_succ, List.getElem_toArray, List.getElem_cons_zero, List.getElem_cons_succ]
    refine wpAnyH_ready (rs := [1, 4, 5]) (by kernel_rfl) (by simp) ?_
    refine AllReadyH.cons rfl (fun K hK => ?_) (AllReadyH.cons rfl (fun K hK => ?_) (AllReadyH.cons rfl (fun K hK => ?_) (AllReadyH.nil)))
    · go_simp
      refine (HMK.out _ (H1.out.here HSM.out)).mono ?_
      rintro e v2 ⟨⟨A3, rfl, C3, D3, VK3, VT3, hown⟩, hb⟩
      have O2 := Lib.hid (AOwn.make hown)
      obtain ⟨D0, hD0⟩ : ∃ D0, v2.heap.size = D0 := ⟨_, rfl⟩
      have E2 : Hid (D0 ≤ v2.heap.size) := Lib.hid (by rw [hD0]; exact Nat.le_refl _)
      rw [hD0] at O2
      have H2 := Lib.hid (H1.out.later hb)
      have HDG : Hid (w.heap.size + 1 ≤ D0) := Lib.hid (by rw [← hD0]; exact H2.out.lt)
      clear hD0
      clear hown hb
      refine hK.out _ _ ?_ (fun hHeld => ?_)
      · exact H2.out.cells
      clear hK K
      try simp only [Act.put, List.setIfInBounds_toArray, List.set_cons_zero, List.set_cons_succ, List.getElem_toArray, List.getElem_cons_zero, List.getElem_cons_succ]
      refine wpAnyH_ready (rs := [3, 4, 5]) (by kernel_rfl) (by simp) ?_
      refine AllReadyH.cons rfl (fun K hK => ?_) (AllReadyH.cons rfl (fun K hK => ?_) (AllReadyH.cons rfl (fun K hK => ?_) (AllReadyH.nil)))
      · go_simp
        refine (HMK.out _ (H2.out.here HSM.out)).mono ?_
        rintro e v3 ⟨⟨A4, rfl, C4, D4, VK4, VT4, hown⟩, hb⟩
        have R3 := Lib.hid hown
        have HBD : Hid (D0 ≤ v2.heap.size + 3) := Lib.hid (by have := E2.out; omega)
        have H3 := Lib.hid (H2.out.later hb)
        have O3 := Lib.hid (O2.out.later hb)
        have E3 := Lib.hid (Nat.le_trans E2.out hb.size)
        clear hown hb
        refine hK.out _ _ ?_ (fun hHeld => ?_)
        · exact H3.out.cells
        clear hK K
        try simp only [Act.put, List.setIfInBounds_toArray, List.set_cons_zero, List.set_cons_succ, List.getElem_toArray, List.getElem_cons_zero, List.getElem_cons_succ]
        refine wpAnyH_ready (rs := [4, 5]) (by kernel_rfl) (by simp) ?_
        refine AllReadyH.cons rfl (fun K hK => ?_) (AllReadyH.cons rfl (fun K hK => ?_) (AllReadyH.nil))
        · go_simp
          have hb := below1 v3 (.cells #[.int .i64 0, .int .i64 0, .int .i64 0, .int .i64 0, .int .i64 0, .slice none 0 0, .slice none 0 0, .slice none 0 0, .slice none 0 0] 38)
          have H4 := Lib.hid (H3.out.later hb)
          have P4 := Lib.hid (heap_alloc_new v3 (.cells #[.int .i64 0, .int .i64 0, .int .i64 0, .int .i64 0, .int .i64 0, .slice none 0 0, .slice none 0 0, .slice none 0 0, .slice none 0 0] 38))
          have O4 := Lib.hid (O3.out.later hb)
          have E4 := Lib.hid (Nat.le_trans E3.out hb.size)
          have R4 := Lib.hid (R3.out.later hb)
          refine hK.out _ _ ?_ (fun hHeld => ?_)
          · exact H4.out.cells
          clear hK K
          try simp only [Act.put, List.setIfInBounds_toArray, List.set_cons_zero, List.set_cons_succ, List.getElem_toArray, List.getElem_cons_zero, List.getElem_cons_succ]
          obtain ⟨ga, hga⟩ : ∃ g, v3.heap.size = g := ⟨_, rfl⟩
          have HGga : Hid (w.heap.size + 1 ≤ ga) := Lib.hid (by rw [← hga]; exact H3.out.lt)
          obtain ⟨v4, hv4⟩ : ∃ W9, World.alloc v3 (.cells #[.int .i64 0, .int .i64 0, .int .i64 0, .int .i64 0, .int .i64 0, .slice none 0 0, .slice none 0 0, .slice none 0 0, .slice none 0 0] 38) = W9 := ⟨_, rfl⟩
          rw [hv4] at hHeld H4 P4 O4 E4 R4 ⊢
          rw [hga] at P4 ⊢
          clear hga hv4 hb
          refine wpAnyH_ready (rs := [5]) (by kernel_rfl) (by simp) ?_
          refine AllReadyH.cons rfl (fun K hK => ?_) (AllReadyH.nil)
          go_simp
          have hb := below1 v4 (.cells #[.int .i64 0, .int .i64 0, .int .i64 0, .int .i64 0, .int .i64 0, .slice none 0 0, .slice none 0 0, .slice none 0 0, .slice none 0 0] 38)
          have H5 := Lib.hid (H4.out.later hb)
          have Q5 := Lib.hid (heap_alloc_new v4 (.cells #[.int .i64 0, .int .i64 0, .int .i64 0, .int .i64 0, .int .i64 0, .slice none 0 0, .slice none 0 0, .slice none 0 0, .slice none 0 0] 38))
          have P5 := Lib.hid ((hb.block _ (Array.getElem?_eq_some_iff.1 P4.out).1).trans P4.out)
          have O5 := Lib.hid (O4.out.later hb)
          have E5 := Lib.hid (Nat.le_trans E4.out hb.size)
          have R5 := Lib.hid (R4.out.later hb)
          refine hK.out _ _ ?_ (fun hHeld => ?_)
          · exact H5.out.cells
          clear hK K
          try simp only [Act.put, List.setIfInBounds_toArray, List.set_cons_zero, List.set_cons_succ, List.getElem_toArray, List.getElem_cons_zero, List.getElem_cons_succ]
          obtain ⟨gb, hgb⟩ : ∃ g, v4.heap.size = g := ⟨_, rfl⟩
          have HGgb : Hid (w.heap.size + 1 ≤ gb) := Lib.hid (by rw [← hgb]; exact H4.out.lt)
          have HNE : Hid (ga ≠ gb) := Lib.hid (by have := (Array.getElem?_eq_some_iff.1 P4.out).1; omega)
          obtain ⟨v5, hv5⟩ : ∃ W9, World.alloc v4 (.cells #[.int .i64 0, .int .i64 0, .int .i64 0, .int .i64 0, .int .i64 0, .slice none 0 0, .slice none 0 0, .slice none 0 0, .slice none 0 0] 38) = W9 := ⟨_, rfl⟩
          rw [hv5] at hHeld H5 Q5 P5 O5 E5 R5 ⊢
          rw [hgb] at Q5 ⊢
          clear hgb hv5 hb
          obtain ⟨n0, n1, n2, n3, n4, n5, n6, n7, n8, nf⟩ := cells9 P5.out
          have PS := Lib.hid (storeI_blk (y0 := .int .i64 m.en) (y1 := .int .i64 m.tm) (y2 := .int .i64 m.tr) (y3 := .int .i64 m.bm) (y4 := .int .i64 m.br) (y5 := .slice A3.sa m.sats.length A3.sc) (y6 := .slice A3.ca m.cus.length A3.cc) (y7 := .slice A3.ka m.cost.length A3.kc) (y8 := .slice A3.ta m.time.length A3.tc) P5.out)
          have QS := Lib.hid ((storeI_other (y0 := .int .i64 m.en) (y1 := .int .i64 m.tm) (y2 := .int .i64 m.tr) (y3 := .int .i64 m.bm) (y4 := .int .i64 m.br) (y5 := .slice A3.sa m.sats.length A3.sc) (y6 := .slice A3.ca m.cus.length A3.cc) (y7 := .slice A3.ka m.cost.length A3.kc) (y8 := .slice A3.ta m.time.length A3.tc) (Ne.symm HNE.out)).trans Q5.out)
          have HS9 := Lib.hid (H5.out.mod (below_storeI (wr := v5) (y0 := .int .i64 m.en) (y1 := .int .i64 m.tm) (y2 := .int .i64 m.tr) (y3 := .int .i64 m.bm) (y4 := .int .i64 m.br) (y5 := .slice A3.sa m.sats.length A3.sc) (y6 := .slice A3.ca m.cus.length A3.cc) (y7 := .slice A3.ka m.cost.length A3.kc) (y8 := .slice A3.ta m.time.length A3.tc) HGga.out))
          have OS := Lib.hid (O5.out.storeI_ (y0 := .int .i64 m.en) (y1 := .int .i64 m.tm) (y2 := .int .i64 m.tr) (y3 := .int .i64 m.bm) (y4 := .int .i64 m.br) (y5 := .slice A3.sa m.sats.length A3.sc) (y6 := .slice A3.ca m.cus.length A3.cc) (y7 := .slice A3.ka m.cost.length A3.kc) (y8 := .slice A3.ta m.time.length A3.tc) P5.out)
          have RS := Lib.hid (R5.out.storeI_ (y0 := .int .i64 m.en) (y1 := .int .i64 m.tm) (y2 := .int .i64 m.tr) (y3 := .int .i64 m.bm) (y4 := .int .i64 m.br) (y5 := .slice A3.sa m.sats.length A3.sc) (y6 := .slice A3.ca m.cus.length A3.cc) (y7 := .slice A3.ka m.cost.length A3.kc) (y8 := .slice A3.ta m.time.length A3.tc) P5.out)
          refine wpAnyH_ready (rs := [6]) (by kernel_rfl) (by simp) ?_
          refine AllReadyH.cons rfl (fun K hK => ?_) (AllReadyH.nil)
          go_simp
          refine hK.out _ _ ?_ (fun hHeld => ?_)
          · exact HS9.out.cells
          clear hK K
          try simp only [Act.put, List.setIfInBounds_toArray, List.set_cons_zero, List.set_cons_succ, List.getElem_toArray, List.getElem_cons_zero, List.getElem_cons_succ]
          clear n0 n1 n2 n3 n4 n5 n6 n7 n8 nf
          obtain ⟨v9, hv9⟩ : ∃ v9, storeI v5 ga (.int .i64 m.en) (.int .i64 m.tm) (.int .i64 m.tr) (.int .i64 m.bm) (.int .i64 m.br) (.slice A3.sa m.sats.length A3.sc) (.slice A3.ca m.cus.length A3.cc) (.slice A3.ka m.cost.length A3.kc) (.slice A3.ta m.time.length A3.tc) = v9 := ⟨_, rfl⟩
          rw [hv9] at PS QS HS9 OS RS
          unfold storeI at hv9
          rw [hv9] at hHeld ⊢
          clear hv9
          obtain ⟨n0, n1, n2, n3, n4, n5, n6, n7, n8, nf⟩ := cells9 QS.out
          have QT := Lib.hid (storeI_blk (y0 := .int .i64 m.en) (y1 := .int .i64 m.tm) (y2 := .int .i64 m.tr) (y3 := .int .i64 m.bm) (y4 := .int .i64 m.br) (y5 := .slice A4.sa m.sats.length A4.sc) (y6 := .slice A4.ca m.cus.length A4.cc) (y7 := .slice A4.ka m.cost.length A4.kc) (y8 := .slice A4.ta m.time.length A4.tc) QS.out)
          have PT := Lib.hid ((storeI_other (y0 := .int .i64 m.en) (y1 := .int .i64 m.tm) (y2 := .int .i64 m.tr) (y3 := .int .i64 m.bm) (y4 := .int .i64 m.br) (y5 := .slice A4.sa m.sats.length A4.sc) (y6 := .slice A4.ca m.cus.length A4.cc) (y7 := .slice A4.ka m.cost.length A4.kc) (y8 := .slice A4.ta m.time.length A4.tc) HNE.out).trans PS.out)
          have HT9 := Lib.hid (HS9.out.mod (below_storeI (wr := v9) (y0 := .int .i64 m.en) (y1 := .int .i64 m.tm) (y2 := .int .i64 m.tr) (y3 := .int .i64 m.bm) (y4 := .int .i64 m.br) (y5 := .slice A4.sa m.sats.length A4.sc) (y6 := .slice A4.ca m.cus.length A4.cc) (y7 := .slice A4.ka m.cost.length A4.kc) (y8 := .slice A4.ta m.time.length A4.tc) HGgb.out))
          have OT := Lib.hid (OS.out.storeI_ (y0 := .int .i64 m.en) (y1 := .int .i64 m.tm) (y2 := .int .i64 m.tr) (y3 := .int .i64 m.bm) (y4 := .int .i64 m.br) (y5 := .slice A4.sa m.sats.length A4.sc) (y6 := .slice A4.ca m.cus.length A4.cc) (y7 := .slice A4.ka m.cost.length A4.kc) (y8 := .slice A4.ta m.time.length A4.tc) QS.out)
          have RT := Lib.hid (RS.out.storeI_ (y0 := .int .i64 m.en) (y1 := .int .i64 m.tm) (y2 := .int .i64 m.tr) (y3 := .int .i64 m.bm) (y4 := .int .i64 m.br) (y5 := .slice A4.sa m.sats.length A4.sc) (y6 := .slice A4.ca m.cus.length A4.cc) (y7 := .slice A4.ka m.cost.length A4.kc) (y8 := .slice A4.ta m.time.length A4.tc) QS.out)
          refine wpAnyH_ready (rs := [7]) (by kernel_rfl) (by simp) ?_
          refine AllReadyH.cons rfl (fun K hK => ?_) (AllReadyH.nil)
          go_simp
          refine hK.out _ _ ?_ (fun hHeld => ?_)
          · exact HT9.out.cells
          clear hK K
          try simp only [Act.put, List.setIfInBounds_toArray, List.set_cons_zero, List.set_cons_succ, List.getElem_toArray, List.getElem_cons_zero, List.getElem_cons_succ]
          refine wpAnyH_done (by kernel_rfl) ?_ _
          clear hHeld n0 n1 n2 n3 n4 n5 n6 n7 n8 nf
          go_wp2_with fail
          go_meet
          exact ⟨ga, gb, D0, A3, A4, _, C4, D4, VK4, VT4, _, _, rfl, rfl, ⟨HT9.out, PT.out, OT.out, HGga.out, HDG.out⟩, ⟨QT.out, RT.out, hn1, hn2.2, hn4.2⟩, HNE.out, HGgb.out, HBD.out⟩
        · go_simp
          have hb := below1 v3 (.cells #[.int .i64 0, .int .i64 0, .int .i64 0, .int .i64 0, .int .i64 0, .slice none 0 0, .slice none 0 0, .slice none 0 0, .slice none 0 0] 38)
          have H4 := Lib.hid (H3.out.later hb)
          have Q4 := Lib.hid (heap_alloc_new v3 (.cells #[.int .i64 0, .int .i64 0, .int .i64 0, .int .i64 0, .int .i64 0, .slice none 0 0, .slice none 0 0, .slice none 0 0, .slice none 0 0] 38))
          have O4 := Lib.hid (O3.out.later hb)
          have E4 := Lib.hid (Nat.le_trans E3.out hb.size)
          have R4 := Lib.hid (R3.out.later hb)
          refine hK.out _ _ ?_ (fun hHeld => ?_)
          · exact H4.out.cells
          clear hK K
          try simp only [Act.put, List.setIfInBounds_toArray, List.set_cons_zero, List.set_cons_succ, List.getElem_toArray, List.getElem_cons_zero, List.getElem_cons_succ]
          obtain ⟨gb, hgb⟩ : ∃ g, v3.heap.size = g := ⟨_, rfl⟩
          have HGgb : Hid (w.heap.size + 1 ≤ gb) := Lib.hid (by rw [← hgb]; exact H3.out.lt)
          obtain ⟨v4, hv4⟩ : ∃ W9, World.alloc v3 (.cells #[.int .i64 0, .int .i64 0, .int .i64 0, .int .i64 0, .int .i64 0, .slice none 0 0, .slice none 0 0, .slice none 0 0, .slice none 0 0] 38) = W9 := ⟨_, rfl⟩
          rw [hv4] at hHeld H4 Q4 O4 E4 R4 ⊢
          rw [hgb] at Q4 ⊢
          clear hgb hv4 hb
          refine wpAnyH_ready (rs := [4]) (by kernel_rfl) (by simp) ?_
          refine AllReadyH.cons rfl (fun K hK => ?_) (AllReadyH.nil)
          go_simp
          have hb := below1 v4 (.cells #[.int .i64 0, .int .i64 0, .int .i64 0, .int .i64 0, .int .i64 0, .slice none 0 0, .slice none 0 0, .slice none 0 0, .slice none 0 0] 38)
          have H5 := Lib.hid (H4.out.later hb)
          have P5 := Lib.hid (heap_alloc_new v4 (.cells #[.int .i64 0, .int .i64 0, .int .i64 0, .int .i64 0, .int .i64 0, .slice none 0 0, .slice none 0 0, .slice none 0 0, .slice none 0 0] 38))
          have Q5 := Lib.hid ((hb.block _ (Array.getElem?_eq_some_iff.1 Q4.out).1).trans Q4.out)
          have O5 := Lib.hid (O4.out.later hb)
          have E5 := Lib.hid (Nat.le_trans E4.out hb.size)
          have R5 := Lib.hid (R4.out.later hb)
          refine hK.out _ _ ?_ (fun hHeld => ?_)
          · exact H5.out.cells
          clear hK K
          try simp only [Act.put, List.setIfInBounds_toArray, List.set_cons_zero, List.set_cons_succ, List.getElem_toArray, List.getElem_cons_zero, List.getElem_cons_succ]
          obtain ⟨ga, hga⟩ : ∃ g, v4.heap.size = g := ⟨_, rfl⟩
          have HGga : Hid (w.heap.size + 1 ≤ ga) := Lib.hid (by rw [← hga]; exact H4.out.lt)
          have HNE : Hid (ga ≠ gb) := Lib.hid (by have := (Array.getElem?_eq_some_iff.1 Q4.out).1; omega)
          obtain ⟨v5, hv5⟩ : ∃ W9, World.alloc v4 (.cells #[.int .i64 0, .int .i64 0, .int .i64 0, .int .i64 0, .int .i64 0, .slice none 0 0, .slice none 0 0, .slice none 0 0, .slice none 0 0] 38) = W9 := ⟨_, rfl⟩
          rw [hv5] at hHeld H5 P5 Q5 O5 E5 R5 ⊢
          rw [hga] at P5 ⊢
          clear hga hv5 hb
          obtain ⟨n0, n1, n2, n3, n4, n5, n6, n7, n8, nf⟩ := cells9 P5.out
          have PS := Lib.hid (storeI_blk (y0 := .int .i64 m.en) (y1 := .int .i64 m.tm) (y2 := .int .i64 m.tr) (y3 := .int .i64 m.bm) (y4 := .int .i64 m.br) (y5 := .slice A3.sa m.sats.length A3.sc) (y6 := .slice A3.ca m.cus.length A3.cc) (y7 := .slice A3.ka m.cost.length A3.kc) (y8 := .slice A3.ta m.time.length A3.tc) P5.out)
          have QS := Lib.hid ((storeI_other (y0 := .int .i64 m.en) (y1 := .int .i64 m.tm) (y2 := .int .i64 m.tr) (y3 := .int .i64 m.bm) (y4 := .int .i64 m.br) (y5 := .slice A3.sa m.sats.length A3.sc) (y6 := .slice A3.ca m.cus.length A3.cc) (y7 := .slice A3.ka m.cost.length A3.kc) (y8 := .slice A3.ta m.time.length A3.tc) (Ne.symm HNE.out)).trans Q5.out)
          have HS9 := Lib.hid (H5.out.mod (below_storeI (wr := v5) (y0 := .int .i64 m.en) (y1 := .int .i64 m.tm) (y2 := .int .i64 m.tr) (y3 := .int .i64 m.bm) (y4 := .int .i64 m.br) (y5 := .slice A3.sa m.sats.length A3.sc) (y6 := .slice A3.ca m.cus.length A3.cc) (y7 := .slice A3.ka m.cost.length A3.kc) (y8 := .slice A3.ta m.time.length A3.tc) HGga.out))
          have OS := Lib.hid (O5.out.storeI_ (y0 := .int .i64 m.en) (y1 := .int .i64 m.tm) (y2 := .int .i64 m.tr) (y3 := .int .i64 m.bm) (y4 := .int .i64 m.br) (y5 := .slice A3.sa m.sats.length A3.sc) (y6 := .slice A3.ca m.cus.length A3.cc) (y7 := .slice A3.ka m.cost.length A3.kc) (y8 := .slice A3.ta m.time.length A3.tc) P5.out)
          have RS := Lib.hid (R5.out.storeI_ (y0 := .int .i64 m.en) (y1 := .int .i64 m.tm) (y2 := .int .i64 m.tr) (y3 := .int .i64 m.bm) (y4 := .int .i64 m.br) (y5 := .slice A3.sa m.sats.length A3.sc) (y6 := .slice A3.ca m.cus.length A3.cc) (y7 := .slice A3.ka m.cost.length A3.kc) (y8 := .slice A3.ta m.time.length A3.tc) P5.out)
          refine wpAnyH_ready (rs := [6]) (by kernel_rfl) (by simp) ?_
          refine AllReadyH.cons rfl (fun K hK => ?_) (AllReadyH.nil)
          go_simp
          refine hK.out _ _ ?_ (fun hHeld => ?_)
          · exact HS9.out.cells
          clear hK K
          try simp only [Act.put, List.setIfInBounds_toArray, List.set_cons_zero, List.set_cons_succ, List.getElem_toArray, List.getElem_cons_zero, List.getElem_cons_succ]
          clear n0 n1 n2 n3 n4 n5 n6 n7 n8 nf
          obtain ⟨v9, hv9⟩ : ∃ v9, storeI v5 ga (.int .i64 m.en) (.int .i64 m.tm) (.int .i64 m.tr) (.int .i64 m.bm) (.int .i64 m.br) (.slice A3.sa m.sats.length A3.sc) (.slice A3.ca m.cus.length A3.cc) (.slice A3.ka m.cost.length A3.kc) (.slice A3.ta m.time.length A3.tc) = v9 := ⟨_, rfl⟩
          rw [hv9] at PS QS HS9 OS RS
          unfold storeI at hv9
          rw [hv9] at hHeld ⊢
          clear hv9
          obtain ⟨n0, n1, n2, n3, n4, n5, n6, n7, n8, nf⟩ := cells9 QS.out
          have QT := Lib.hid (storeI_blk (y0 := .int .i64 m.en) (y1 := .int .i64 m.tm) (y2 := .int .i64 m.tr) (y3 := .int .i64 m.bm) (y4 := .int .i64 m.br) (y5 := .slice A4.sa m.sats.length A4.sc) (y6 := .slice A4.ca m.cus.length A4.cc) (y7 := .slice A4.ka m.cost.length A4.kc) (y8 := .slice A4.ta m.time.length A4.tc) QS.out)
          have PT := Lib.hid ((storeI_other (y0 := .int .i64 m.en) (y1 := .int .i64 m.tm) (y2 := .int .i64 m.tr) (y3 := .int .i64 m.bm) (y4 := .int .i64 m.br) (y5 := .slice A4.sa m.sats.length A4.sc) (y6 := .slice A4.ca m.cus.length A4.cc) (y7 := .slice A4.ka m.cost.length A4.kc) (y8 := .slice A4.ta m.time.length A4.tc) HNE.out).trans PS.out)
          have HT9 := Lib.hid (HS9.out.mod (below_storeI (wr := v9) (y0 := .int .i64 m.en) (y1 := .int .i64 m.tm) (y2 := .int .i64 m.tr) (y3 := .int .i64 m.bm) (y4 := .int .i64 m.br) (y5 := .slice A4.sa m.sats.length A4.sc) (y6 := .slice A4.ca m.cus.length A4.cc) (y7 := .slice A4.ka m.cost.length A4.kc) (y8 := .slice A4.ta m.time.length A4.tc) HGgb.out))
          have OT := Lib.hid (OS.out.storeI_ (y0 := .int .i64 m.en) (y1 := .int .i64 m.tm) (y2 := .int .i64 m.tr) (y3 := .int .i64 m.bm) (y4 := .int .i64 m.br) (y5 := .slice A4.sa m.sats.length A4.sc) (y6 := .slice A4.ca m.cus.length A4.cc) (y7 := .slice A4.ka m.cost.length A4.kc) (y8 := .slice A4.ta m.time.length A4.tc) QS.out)
          have RT := Lib.hid (RS.out.storeI_ (y0 := .int .i64 m.en) (y1 := .int .i64 m.tm) (y2 := .int .i64 m.tr) (y3 := .int .i64 m.bm) (y4 := .int .i64 m.br) (y5 := .slice A4.sa m.sats.length A4.sc) (y6 := .slice A4.ca m.cus.length A4.cc) (y7 := .slice A4.ka m.cost.length A4.kc) (y8 := .slice A4.ta m.time.length A4.tc) QS.out)
          refine wpAnyH_ready (rs := [7]) (by kernel_rfl) (by simp) ?_
          refine AllReadyH.cons rfl (fun K hK => ?_) (AllReadyH.nil)
          go_simp
          refine hK.out _ _ ?_ (fun hHeld => ?_)
          · exact HT9.out.cells
          clear hK K
          try simp only [Act.put, List.setIfInBounds_toArray, List.set_cons_zero, List.set_cons_succ, List.getElem_toArray, List.getElem_cons_zero, List.getElem_cons_succ]
          refine wpAnyH_done (by kernel_rfl) ?_ _
          clear hHeld n0 n1 n2 n3 n4 n5 n6 n7 n8 nf
          go_wp2_with fail
          go_meet
          exact ⟨ga, gb, D0, A3, A4, _, C4, D4, VK4, VT4, _, _, rfl, rfl, ⟨HT9.out, PT.out, OT.out, HGga.out, HDG.out⟩, ⟨QT.out, RT.out, hn1, hn2.2, hn4.2⟩, HNE.out, HGgb.out, HBD.out⟩
      · go_simp
        have hb := below1 v2 (.cells #[.int .i64 0, .int .i64 0, .int .i64 0, .int .i64 0, .int .i64 0, .slice none 0 0, .slice none 0 0, .slice none 0 0, .slice none 0 0] 38)
        have H3 := Lib.hid (H2.out.later hb)
        have P3 := Lib.hid (heap_alloc_new v2 (.cells #[.int .i64 0, .int .i64 0, .int .i64 0, .int .i64 0, .int .i64 0, .slice none 0 0, .slice none 0 0, .slice none 0 0, .slice none 0 0] 38))
        have O3 := Lib.hid (O2.out.later hb)
        have E3 := Lib.hid (Nat.le_trans E2.out hb.size)
        refine hK.out _ _ ?_ (fun hHeld => ?_)
        · exact H3.out.cells
        clear hK K
        try simp only [Act.put, List.setIfInBounds_toArray, List.set_cons_zero, List.set_cons_succ, List.getElem_toArray, List.getElem_cons_zero, List.getElem_cons_succ]
        obtain ⟨ga, hga⟩ : ∃ g, v2.heap.size = g := ⟨_, rfl⟩
        have HGga : Hid (w.heap.size + 1 ≤ ga) := Lib.hid (by rw [← hga]; exact H2.out.lt)
        obtain ⟨v3, hv3⟩ : ∃ W9, World.alloc v2 (.cells #[.int .i64 0, .int .i64 0, .int .i64 0, .int .i64 0, .int .i64 0, .slice none 0 0, .slice none 0 0, .slice none 0 0, .slice none 0 0] 38) = W9 := ⟨_, rfl⟩
        rw [hv3] at hHeld H3 P3 O3 E3 ⊢
        rw [hga] at P3 ⊢
        clear hga hv3 hb
        refine wpAnyH_ready (rs := [3, 5]) (by kernel_rfl) (by simp) ?_
        refine AllReadyH.cons rfl (fun K hK => ?_) (AllReadyH.cons rfl (fun K hK => ?_) (AllReadyH.nil))
        · go_simp
          refine (HMK.out _ (H3.out.here HSM.out)).mono ?_
          rintro e v4 ⟨⟨A4, rfl, C4, D4, VK4, VT4, hown⟩, hb⟩
          have R4 := Lib.hid hown
          have HBD : Hid (D0 ≤ v3.heap.size + 3) := Lib.hid (by have := E3.out; omega)
          have H4 := Lib.hid (H3.out.later hb)
          have P4 := Lib.hid ((hb.block _ (Array.getElem?_eq_some_iff.1 P3.out).1).trans P3.out)
          have O4 := Lib.hid (O3.out.later hb)
          have E4 := Lib.hid (Nat.le_trans E3.out hb.size)
          clear hown hb
          refine hK.out _ _ ?_ (fun hHeld => ?_)
          · exact H4.out.cells
          clear hK K
          try simp only [Act.put, List.setIfInBounds_toArray, List.set_cons_zero, List.set_cons_succ, List.getElem_toArray, List.getElem_cons_zero, List.getElem_cons_succ]
          refine wpAnyH_ready (rs := [5]) (by kernel_rfl) (by simp) ?_
          refine AllReadyH.cons rfl (fun K hK => ?_) (AllReadyH.nil)
          go_simp
          have hb := below1 v4 (.cells #[.int .i64 0, .int .i64 0, .int .i64 0, .int .i64 0, .int .i64 0, .slice none 0 0, .slice none 0 0, .slice none 0 0, .slice none 0 0] 38)
          have H5 := Lib.hid (H4.out.later hb)
          have Q5 := Lib.hid (heap_alloc_new v4 (.cells #[.int .i64 0, .int .i64 0, .int .i64 0, .int .i64 0, .int .i64 0, .slice none 0 0, .slice none 0 0, .slice none 0 0, .slice none 0 0] 38))
          have P5 := Lib.hid ((hb.block _ (Array.getElem?_eq_some_iff.1 P4.out).1).trans P4.out)
          have O5 := Lib.hid (O4.out.later hb)
          have E5 := Lib.hid (Nat.le_trans E4.out hb.size)
          have R5 := Lib.hid (R4.out.later hb)
          refine hK.out _ _ ?_ (fun hHeld => ?_)
          · exact H5.out.cells
          clear hK K
          try simp only [Act.put, List.setIfInBounds_toArray, List.set_cons_zero, List.set_cons_succ, List.getElem_toArray, List.getElem_cons_zero, List.getElem_cons_succ]
          obtain ⟨gb, hgb⟩ : ∃ g, v4.heap.size = g := ⟨_, rfl⟩
          have HGgb : Hid (w.heap.size + 1 ≤ gb) := Lib.hid (by rw [← hgb]; exact H4.out.lt)
          have HNE : Hid (ga ≠ gb) := Lib.hid (by have := (Array.getElem?_eq_some_iff.1 P4.out).1; omega)
          obtain ⟨v5, hv5⟩ : ∃ W9, World.alloc v4 (.cells #[.int .i64 0, .int .i64 0, .int .i64 0, .int .i64 0, .int .i64 0, .slice none 0 0, .slice none 0 0, .slice none 0 0, .slice none 0 0] 38) = W9 := ⟨_, rfl⟩
          rw [hv5] at hHeld H5 Q5 P5 O5 E5 R5 ⊢
          rw [hgb] at Q5 ⊢
          clear hgb hv5 hb
          obtain ⟨n0, n1, n2, n3, n4, n5, n6, n7, n8, nf⟩ := cells9 P5.out
          have PS := Lib.hid (storeI_blk (y0 := .int .i64 m.en) (y1 := .int .i64 m.tm) (y2 := .int .i64 m.tr) (y3 := .int .i64 m.bm) (y4 := .int .i64 m.br) (y5 := .slice A3.sa m.sats.length A3.sc) (y6 := .slice A3.ca m.cus.length A3.cc) (y7 := .slice A3.ka m.cost.length A3.kc) (y8 := .slice A3.ta m.time.length A3.tc) P5.out)
          have QS := Lib.hid ((storeI_other (y0 := .int .i64 m.en) (y1 := .int .i64 m.tm) (y2 := .int .i64 m.tr) (y3 := .int .i64 m.bm) (y4 := .int .i64 m.br) (y5 := .slice A3.sa m.sats.length A3.sc) (y6 := .slice A3.ca m.cus.length A3.cc) (y7 := .slice A3.ka m.cost.length A3.kc) (y8 := .slice A3.ta m.time.length A3.tc) (Ne.symm HNE.out)).trans Q5.out)
          have HS9 := Lib.hid (H5.out.mod (below_storeI (wr := v5) (y0 := .int .i64 m.en) (y1 := .int .i64 m.tm) (y2 := .int .i64 m.tr) (y3 := .int .i64 m.bm) (y4 := .int .i64 m.br) (y5 := .slice A3.sa m.sats.length A3.sc) (y6 := .slice A3.ca m.cus.length A3.cc) (y7 := .slice A3.ka m.cost.length A3.kc) (y8 := .slice A3.ta m.time.length A3.tc) HGga.out))
          have OS := Lib.hid (O5.out.storeI_ (y0 := .int .i64 m.en) (y1 := .int .i64 m.tm) (y2 := .int .i64 m.tr) (y3 := .int .i64 m.bm) (y4 := .int .i64 m.br) (y5 := .slice A3.sa m.sats.length A3.sc) (y6 := .slice A3.ca m.cus.length A3.cc) (y7 := .slice A3.ka m.cost.length A3.kc) (y8 := .slice A3.ta m.time.length A3.tc) P5.out)
          have RS := Lib.hid (R5.out.storeI_ (y0 := .int .i64 m.en) (y1 := .int .i64 m.tm) (y2 := .int .i64 m.tr) (y3 := .int .i64 m.bm) (y4 := .int .i64 m.br) (y5 := .slice A3.sa m.sats.length A3.sc) (y6 := .slice A3.ca m.cus.length A3.cc) (y7 := .slice A3.ka m.cost.length A3.kc) (y8 := .slice A3.ta m.time.length A3.tc) P5.out)
          refine wpAnyH_ready (rs := [6]) (by kernel_rfl) (by simp) ?_
          refine AllReadyH.cons rfl (fun K hK => ?_) (AllReadyH.nil)
          go_simp
          refine hK.out _ _ ?_ (fun hHeld => ?_)
          · exact HS9.out.cells
          clear hK K
          try simp only [Act.put, List.setIfInBounds_toArray, List.set_cons_zero, List.set_cons_succ, List.getElem_toArray, List.getElem_cons_zero, List.getElem_cons_succ]
          clear n0 n1 n2 n3 n4 n5 n6 n7 n8 nf
          obtain ⟨v9, hv9⟩ : ∃ v9, storeI v5 ga (.int .i64 m.en) (.int .i64 m.tm) (.int .i64 m.tr) (.int .i64 m.bm) (.int .i64 m.br) (.slice A3.sa m.sats.length A3.sc) (.slice A3.ca m.cus.length A3.cc) (.slice A3.ka m.cost.length A3.kc) (.slice A3.ta m.time.length A3.tc) = v9 := ⟨_, rfl⟩
          rw [hv9] at PS QS HS9 OS RS
          unfold storeI at hv9
          rw [hv9] at hHeld ⊢
          clear hv9
          obtain ⟨n0, n1, n2, n3, n4, n5, n6, n7, n8, nf⟩ := cells9 QS.out
          have QT := Lib.hid (storeI_blk (y0 := .int .i64 m.en) (y1 := .int .i64 m.tm) (y2 := .int .i64 m.tr) (y3 := .int .i64 m.bm) (y4 := .int .i64 m.br) (y5 := .slice A4.sa m.sats.length A4.sc) (y6 := .slice A4.ca m.cus.length A4.cc) (y7 := .slice A4.ka m.cost.length A4.kc) (y8 := .slice A4.ta m.time.length A4.tc) QS.out)
          have PT := Lib.hid ((storeI_other (y0 := .int .i64 m.en) (y1 := .int .i64 m.tm) (y2 := .int .i64 m.tr) (y3 := .int .i64 m.bm) (y4 := .int .i64 m.br) (y5 := .slice A4.sa m.sats.length A4.sc) (y6 := .slice A4.ca m.cus.length A4.cc) (y7 := .slice A4.ka m.cost.length A4.kc) (y8 := .slice A4.ta m.time.length A4.tc) HNE.out).trans PS.out)
          have HT9 := Lib.hid (HS9.out.mod (below_storeI (wr := v9) (y0 := .int .i64 m.en) (y1 := .int .i64 m.tm) (y2 := .int .i64 m.tr) (y3 := .int .i64 m.bm) (y4 := .int .i64 m.br) (y5 := .slice A4.sa m.sats.length A4.sc) (y6 := .slice A4.ca m.cus.length A4.cc) (y7 := .slice A4.ka m.cost.length A4.kc) (y8 := .slice A4.ta m.time.length A4.tc) HGgb.out))
          have OT := Lib.hid (OS.out.storeI_ (y0 := .int .i64 m.en) (y1 := .int .i64 m.tm) (y2 := .int .i64 m.tr) (y3 := .int .i64 m.bm) (y4 := .int .i64 m.br) (y5 := .slice A4.sa m.sats.length A4.sc) (y6 := .slice A4.ca m.cus.length A4.cc) (y7 := .slice A4.ka m.cost.length A4.kc) (y8 := .slice A4.ta m.time.length A4.tc) QS.out)
          have RT := Lib.hid (RS.out.storeI_ (y0 := .int .i64 m.en) (y1 := .int .i64 m.tm) (y2 := .int .i64 m.tr) (y3 := .int .i64 m.bm) (y4 := .int .i64 m.br) (y5 := .slice A4.sa m.sats.length A4.sc) (y6 := .slice A4.ca m.cus.length A4.cc) (y7 := .slice A4.ka m.cost.length A4.kc) (y8 := .slice A4.ta m.time.length A4.tc) QS.out)
          refine wpAnyH_ready (rs := [7]) (by kernel_rfl) (by simp) ?_
          refine AllReadyH.cons rfl (fun K hK => ?_) (AllReadyH.nil)
          go_simp
          refine hK.out _ _ ?_ (fun hHeld => ?_)
          · exact HT9.out.cells
          clear hK K
          try simp only [Act.put, List.setIfInBounds_toArray, List.set_cons_zero, List.set_cons_succ, List.getElem_toArray, List.getElem_cons_zero, List.getElem_cons_succ]
          refine wpAnyH_done (by kernel_rfl) ?_ _
          clear hHeld n0 n1 n2 n3 n4 n5 n6 n7 n8 nf
          go_wp2_with fail
          go_meet
          exact ⟨ga, gb, D0, A3, A4, _, C4, D4, VK4, VT4, _, _, rfl, rfl, ⟨HT9.out, PT.out, OT.out, HGga.out, HDG.out⟩, ⟨QT.out, RT.out, hn1, hn2.2, hn4.2⟩, HNE.out, HGgb.out, HBD.out⟩
        · go_simp
          have hb := below1 v3 (.cells #[.int .i64 0, .int .i64 0, .int .i64 0, .int .i64 0, .int .i64 0, .slice none 0 0, .slice none 0 0, .slice none 0 0, .slice none 0 0] 38)
          have H4 := Lib.hid (H3.out.later hb)
          have Q4 := Lib.hid (heap_alloc_new v3 (.cells #[.int .i64 0, .int .i64 0, .int .i64 0, .int .i64 0, .int .i64 0, .slice none 0 0, .slice none 0 0, .slice none 0 0, .slice none 0 0] 38))
          have P4 := Lib.hid ((hb.block _ (Array.getElem?_eq_some_iff.1 P3.out).1).trans P3.out)
          have O4 := Lib.hid (O3.out.later hb)
          have E4 := Lib.hid (Nat.le_trans E3.out hb.size)
          refine hK.out _ _ ?_ (fun hHeld => ?_)
          · exact H4.out.cells
          clear hK K
          try simp only [Act.put, List.setIfInBounds_toArray, List.set_cons_zero, List.set_cons_succ, List.getElem_toArray, List.getElem_cons_zero, List.getElem_cons_succ]
          obtain ⟨gb, hgb⟩ : ∃ g, v3.heap.size = g := ⟨_, rfl⟩
          have HGgb : Hid (w.heap.size + 1 ≤ gb) := Lib.hid (by rw [← hgb]; exact H3.out.lt)
          have HNE : Hid (ga ≠ gb) := Lib.hid (by have := (Array.getElem?_eq_some_iff.1 P3.out).1; omega)
          obtain ⟨v4, hv4⟩ : ∃ W9, World.alloc v3 (.cells #[.int .i64 0, .int .i64 0, .int .i64 0, .int .i64 0, .int .i64 0, .slice none 0 0, .slice none 0 0, .slice none 0 0, .slice none 0 0] 38) = W9 := ⟨_, rfl⟩
          rw [hv4] at hHeld H4 Q4 P4 O4 E4 ⊢
          rw [hgb] at Q4 ⊢
          clear hgb hv4 hb
          refine wpAnyH_ready (rs := [3]) (by kernel_rfl) (by simp) ?_
          refine AllReadyH.cons rfl (fun K hK => ?_) (AllReadyH.nil)
          go_simp
          refine (HMK.out _ (H4.out.here HSM.out)).mono ?_
          rintro e v5 ⟨⟨A4, rfl, C4, D4, VK4, VT4, hown⟩, hb⟩
          have R5 := Lib.hid hown
          have HBD : Hid (D0 ≤ v4.heap.size + 3) := Lib.hid (by have := E4.out; omega)
          have H5 := Lib.hid (H4.out.later hb)
          have P5 := Lib.hid ((hb.block _ (Array.getElem?_eq_some_iff.1 P4.out).1).trans P4.out)
          have Q5 := Lib.hid ((hb.block _ (Array.getElem?_eq_some_iff.1 Q4.out).1).trans Q4.out)
          have O5 := Lib.hid (O4.out.later hb)
          have E5 := Lib.hid (Nat.le_trans E4.out hb.size)
          clear hown hb
          refine hK.out _ _ ?_ (fun hHeld => ?_)
          · exact H5.out.cells
          clear hK K
          try simp only [Act.put, List.setIfInBounds_toArray, List.set_cons_zero, List.set_cons_succ, List.getElem_toArray, List.getElem_cons_zero, List.getElem_cons_succ]
          obtain ⟨n0, n1, n2, n3, n4, n5, n6, n7, n8, nf⟩ := cells9 P5.out
          have PS := Lib.hid (storeI_blk (y0 := .int .i64 m.en) (y1 := .int .i64 m.tm) (y2 := .int .i64 m.tr) (y3 := .int .i64 m.bm) (y4 := .int .i64 m.br) (y5 := .slice A3.sa m.sats.length A3.sc) (y6 := .slice A3.ca m.cus.length A3.cc) (y7 := .slice A3.ka m.cost.length A3.kc) (y8 := .slice A3.ta m.time.length A3.tc) P5.out)
          have QS := Lib.hid ((storeI_other (y0 := .int .i64 m.en) (y1 := .int .i64 m.tm) (y2 := .int .i64 m.tr) (y3 := .int .i64 m.bm) (y4 := .int .i64 m.br) (y5 := .slice A3.sa m.sats.length A3.sc) (y6 := .slice A3.ca m.cus.length A3.cc) (y7 := .slice A3.ka m.cost.length A3.kc) (y8 := .slice A3.ta m.time.length A3.tc) (Ne.symm HNE.out)).trans Q5.out)
          have HS9 := Lib.hid (H5.out.mod (below_storeI (wr := v5) (y0 := .int .i64 m.en) (y1 := .int .i64 m.tm) (y2 := .int .i64 m.tr) (y3 := .int .i64 m.bm) (y4 := .int .i64 m.br) (y5 := .slice A3.sa m.sats.length A3.sc) (y6 := .slice A3.ca m.cus.length A3.cc) (y7 := .slice A3.ka m.cost.length A3.kc) (y8 := .slice A3.ta m.time.length A3.tc) HGga.out))
          have OS := Lib.hid (O5.out.storeI_ (y0 := .int .i64 m.en) (y1 := .int .i64 m.tm) (y2 := .int .i64 m.tr) (y3 := .int .i64 m.bm) (y4 := .int .i64 m.br) (y5 := .slice A3.sa m.sats.length A3.sc) (y6 := .slice A3.ca m.cus.length A3.cc) (y7 := .slice A3.ka m.cost.length A3.kc) (y8 := .slice A3.ta m.time.length A3.tc) P5.out)
          have RS := Lib.hid (R5.out.storeI_ (y0 := .int .i64 m.en) (y1 := .int .i64 m.tm) (y2 := .int .i64 m.tr) (y3 := .int .i64 m.bm) (y4 := .int .i64 m.br) (y5 := .slice A3.sa m.sats.length A3.sc) (y6 := .slice A3.ca m.cus.length A3.cc) (y7 := .slice A3.ka m.cost.length A3.kc) (y8 := .slice A3.ta m.time.length A3.tc) P5.out)
          refine wpAnyH_ready (rs := [6]) (by kernel_rfl) (by simp) ?_
          refine AllReadyH.cons rfl (fun K hK => ?_) (AllReadyH.nil)
          go_simp
          refine hK.out _ _ ?_ (fun hHeld => ?_)
          · exact HS9.out.cells
          clear hK K
          try simp only [Act.put, List.setIfInBounds_toArray, List.set_cons_zero, List.set_cons_succ, List.getElem_toArray, List.getElem_cons_zero, List.getElem_cons_succ]
          clear n0 n1 n2 n3 n4 n5 n6 n7 n8 nf
          obtain ⟨v9, hv9⟩ : ∃ v9, storeI v5 ga (.int .i64 m.en) (.int .i64 m.tm) (.int .i64 m.tr) (.int .i64 m.bm) (.int .i64 m.br) (.slice A3.sa m.sats.length A3.sc) (.slice A3.ca m.cus.length A3.cc) (.slice A3.ka m.cost.length A3.kc) (.slice A3.ta m.time.length A3.tc) = v9 := ⟨_, rfl⟩
          rw [hv9] at PS QS HS9 OS RS
          unfold storeI at hv9
          rw [hv9] at hHeld ⊢
          clear hv9
          obtain ⟨n0, n1, n2, n3, n4, n5, n6, n7, n8, nf⟩ := cells9 QS.out
          have QT := Lib.hid (storeI_blk (y0 := .int .i64 m.en) (y1 := .int .i64 m.tm) (y2 := .int .i64 m.tr) (y3 := .int .i64 m.bm) (y4 := .int .i64 m.br) (y5 := .slice A4.sa m.sats.length A4.sc) (y6 := .slice A4.ca m.cus.length A4.cc) (y7 := .slice A4.ka m.cost.length A4.kc) (y8 := .slice A4.ta m.time.length A4.tc) QS.out)
          have PT := Lib.hid ((storeI_other (y0 := .int .i64 m.en) (y1 := .int .i64 m.tm) (y2 := .int .i64 m.tr) (y3 := .int .i64 m.bm) (y4 := .int .i64 m.br) (y5 := .slice A4.sa m.sats.length A4.sc) (y6 := .slice A4.ca m.cus.length A4.cc) (y7 := .slice A4.ka m.cost.length A4.kc) (y8 := .slice A4.ta m.time.length A4.tc) HNE.out).trans PS.out)
          have HT9 := Lib.hid (HS9.out.mod (below_storeI (wr := v9) (y0 := .int .i64 m.en) (y1 := .int .i64 m.tm) (y2 := .int .i64 m.tr) (y3 := .int .i64 m.bm) (y4 := .int .i64 m.br) (y5 := .slice A4.sa m.sats.length A4.sc) (y6 := .slice A4.ca m.cus.length A4.cc) (y7 := .slice A4.ka m.cost.length A4.kc) (y8 := .slice A4.ta m.time.length A4.tc) HGgb.out))
          have OT := Lib.hid (OS.out.storeI_ (y0 := .int .i64 m.en) (y1 := .int .i64 m.tm) (y2 := .int .i64 m.tr) (y3 := .int .i64 m.bm) (y4 := .int .i64 m.br) (y5 := .slice A4.sa m.sats.length A4.sc) (y6 := .slice A4.ca m.cus.length A4.cc) (y7 := .slice A4.ka m.cost.length A4.kc) (y8 := .slice A4.ta m.time.length A4.tc) QS.out)
          have RT := Lib.hid (RS.out.storeI_ (y0 := .int .i64 m.en) (y1 := .int .i64 m.tm) (y2 := .int .i64 m.tr) (y3 := .int .i64 m.bm) (y4 := .int .i64 m.br) (y5 := .slice A4.sa m.sats.length A4.sc) (y6 := .slice A4.ca m.cus.length A4.cc) (y7 := .slice A4.ka m.cost.length A4.kc) (y8 := .slice A4.ta m.time.length A4.tc) QS.out)
          refine wpAnyH_ready (rs := [7]) (by kernel_rfl) (by simp) ?_
          refine AllReadyH.cons rfl (fun K hK => ?_) (AllReadyH.nil)
          go_simp
          refine hK.out _ _ ?_ (fun hHeld => ?_)
          · exact HT9.out.cells
          clear hK K
          try simp only [Act.put, List.setIfInBounds_toArray, List.set_cons_zero, List.set_cons_succ, List.getElem_toArray, List.getElem_cons_zero, List.getElem_cons_succ]
          refine wpAnyH_done (by kernel_rfl) ?_ _
          clear hHeld n0 n1 n2 n3 n4 n5 n6 n7 n8 nf
          go_wp2_with fail
          go_meet
          exact ⟨ga, gb, D0, A3, A4, _, C4, D4, VK4, VT4, _, _, rfl, rfl, ⟨HT9.out, PT.out, OT.out, HGga.out, HDG.out⟩, ⟨QT.out, RT.out, hn1, hn2.2, hn4.2⟩, HNE.out, HGgb.out, HBD.out⟩
      · go_simp
        have hb := below1 v2 (.cells #[.int .i64 0, .int .i64 0, .int .i64 0, .int .i64 0, .int .i64 0, .slice none 0 0, .slice none 0 0, .slice none 0 0, .slice none 0 0] 38)
        have H3 := Lib.hid (H2.out.later hb)
        have Q3 := Lib.hid (heap_alloc_new v2 (.cells #[.int .i64 0, .int .i64 0, .int .i64 0, .int .i64 0, .int .i64 0, .slice none 0 0, .slice none 0 0, .slice none 0 0, .slice none 0 0] 38))
        have O3 := Lib.hid (O2.out.later hb)
        have E3 := Lib.hid (Nat.le_trans E2.out hb.size)
        refine hK.out _ _ ?_ (fun hHeld => ?_)
        · exact H3.out.cells
        clear hK K
        try simp only [Act.put, List.setIfInBounds_toArray, List.set_cons_zero, List.set_cons_succ, List.getElem_toArray, List.getElem_cons_zero, List.getElem_cons_succ]
        obtain ⟨gb, hgb⟩ : ∃ g, v2.heap.size = g := ⟨_, rfl⟩
        have HGgb : Hid (w.heap.size + 1 ≤ gb) := Lib.hid (by rw [← hgb]; exact H2.out.lt)
        obtain ⟨v3, hv3⟩ : ∃ W9, World.alloc v2 (.cells #[.int .i64 0, .int .i64 0, .int .i64 0, .int .i64 0, .int .i64 0, .slice none 0 0, .slice none 0 0, .slice none 0 0, .slice none 0 0] 38) = W9 := ⟨_, rfl⟩
        rw [hv3] at hHeld H3 Q3 O3 E3 ⊢
        rw [hgb] at Q3 ⊢
        clear hgb hv3 hb
        refine wpAnyH_ready (rs := [3, 4]) (by kernel_rfl) (by simp) ?_
        refine AllReadyH.cons rfl (fun K hK => ?_) (AllReadyH.cons rfl (fun K hK => ?_) (AllReadyH.nil))
        · go_simp
          refine (HMK.out _ (H3.out.here HSM.out)).mono ?_
          rintro e v4 ⟨⟨A4, rfl, C4, D4, VK4, VT4, hown⟩, hb⟩
          have R4 := Lib.hid hown
          have HBD : Hid (D0 ≤ v3.heap.size + 3) := Lib.hid (by have := E3.out; omega)
          have H4 := Lib.hid (H3.out.later hb)
          have Q4 := Lib.hid ((hb.block _ (Array.getElem?_eq_some_iff.1 Q3.out).1).trans Q3.out)
          have O4 := Lib.hid (O3.out.later hb)
          have E4 := Lib.hid (Nat.le_trans E3.out hb.size)
          clear hown hb
          refine hK.out _ _ ?_ (fun hHeld => ?_)
          · exact H4.out.cells
          clear hK K
          try simp only [Act.put, List.setIfInBounds_toArray, List.set_cons_zero, List.set_cons_succ, List.getElem_toArray, List.getElem_cons_zero, List.getElem_cons_succ]
          refine wpAnyH_ready (rs := [4]) (by kernel_rfl) (by simp) ?_
          refine AllReadyH.cons rfl (fun K hK => ?_) (AllReadyH.nil)
          go_simp
          have hb := below1 v4 (.cells #[.int .i64 0, .int .i64 0, .int .i64 0, .int .i64 0, .int .i64 0, .slice none 0 0, .slice none 0 0, .slice none 0 0, .slice none 0 0] 38)
          have H5 := Lib.hid (H4.out.later hb)
          have P5 := Lib.hid (heap_alloc_new v4 (.cells #[.int .i64 0, .int .i64 0, .int .i64 0, .int .i64 0, .int .i64 0, .slice none 0 0, .slice none 0 0, .slice none 0 0, .slice none 0 0] 38))
          have Q5 := Lib.hid ((hb.block _ (Array.getElem?_eq_some_iff.1 Q4.out).1).trans Q4.out)
          have O5 := Lib.hid (O4.out.later hb)
          have E5 := Lib.hid (Nat.le_trans E4.out hb.size)
          have R5 := Lib.hid (R4.out.later hb)
          refine hK.out _ _ ?_ (fun hHeld => ?_)
          · exact H5.out.cells
          clear hK K
          try simp only [Act.put, List.setIfInBounds_toArray, List.set_cons_zero, List.set_cons_succ, List.getElem_toArray, List.getElem_cons_zero, List.getElem_cons_succ]
          obtain ⟨ga, hga⟩ : ∃ g, v4.heap.size = g := ⟨_, rfl⟩
          have HGga : Hid (w.heap.size + 1 ≤ ga) := Lib.hid (by rw [← hga]; exact H4.out.lt)
          have HNE : Hid (ga ≠ gb) := Lib.hid (by have := (Array.getElem?_eq_some_iff.1 Q4.out).1; omega)
          obtain ⟨v5, hv5⟩ : ∃ W9, World.alloc v4 (.cells #[.int .i64 0, .int .i64 0, .int .i64 0, .int .i64 0, .int .i64 0, .slice none 0 0, .slice none 0 0, .slice none 0 0, .slice none 0 0] 38) = W9 := ⟨_, rfl⟩
          rw [hv5] at hHeld H5 P5 Q5 O5 E5 R5 ⊢
          rw [hga] at P5 ⊢
          clear hga hv5 hb
          obtain ⟨n0, n1, n2, n3, n4, n5, n6, n7, n8, nf⟩ := cells9 P5.out
          have PS := Lib.hid (storeI_blk (y0 := .int .i64 m.en) (y1 := .int .i64 m.tm) (y2 := .int .i64 m.tr) (y3 := .int .i64 m.bm) (y4 := .int .i64 m.br) (y5 := .slice A3.sa m.sats.length A3.sc) (y6 := .slice A3.ca m.cus.length A3.cc) (y7 := .slice A3.ka m.cost.length A3.kc) (y8 := .slice A3.ta m.time.length A3.tc) P5.out)
          have QS := Lib.hid ((storeI_other (y0 := .int .i64 m.en) (y1 := .int .i64 m.tm) (y2 := .int .i64 m.tr) (y3 := .int .i64 m.bm) (y4 := .int .i64 m.br) (y5 := .slice A3.sa m.sats.length A3.sc) (y6 := .slice A3.ca m.cus.length A3.cc) (y7 := .slice A3.ka m.cost.length A3.kc) (y8 := .slice A3.ta m.time.length A3.tc) (Ne.symm HNE.out)).trans Q5.out)
          have HS9 := Lib.hid (H5.out.mod (below_storeI (wr := v5) (y0 := .int .i64 m.en) (y1 := .int .i64 m.tm) (y2 := .int .i64 m.tr) (y3 := .int .i64 m.bm) (y4 := .int .i64 m.br) (y5 := .slice A3.sa m.sats.length A3.sc) (y6 := .slice A3.ca m.cus.length A3.cc) (y7 := .slice A3.ka m.cost.length A3.kc) (y8 := .slice A3.ta m.time.length A3.tc) HGga.out))
          have OS := Lib.hid (O5.out.storeI_ (y0 := .int .i64 m.en) (y1 := .int .i64 m.tm) (y2 := .int .i64 m.tr) (y3 := .int .i64 m.bm) (y4 := .int .i64 m.br) (y5 := .slice A3.sa m.sats.length A3.sc) (y6 := .slice A3.ca m.cus.length A3.cc) (y7 := .slice A3.ka m.cost.length A3.kc) (y8 := .slice A3.ta m.time.length A3.tc) P5.out)
          have RS := Lib.hid (R5.out.storeI_ (y0 := .int .i64 m.en) (y1 := .int .i64 m.tm) (y2 := .int .i64 m.tr) (y3 := .int .i64 m.bm) (y4 := .int .i64 m.br) (y5 := .slice A3.sa m.sats.length A3.sc) (y6 := .slice A3.ca m.cus.length A3.cc) (y7 := .slice A3.ka m.cost.length A3.kc) (y8 := .slice A3.ta m.time.length A3.tc) P5.out)
          refine wpAnyH_ready (rs := [6]) (by kernel_rfl) (by simp) ?_
          refine AllReadyH.cons rfl (fun K hK => ?_) (AllReadyH.nil)
          go_simp
          refine hK.out _ _ ?_ (fun hHeld => ?_)
          · exact HS9.out.cells
          clear hK K
          try simp only [Act.put, List.setIfInBounds_toArray, List.set_cons_zero, List.set_cons_succ, List.getElem_toArray, List.getElem_cons_zero, List.getElem_cons_succ]
          clear n0 n1 n2 n3 n4 n5 n6 n7 n8 nf
          obtain ⟨v9, hv9⟩ : ∃ v9, storeI v5 ga (.int .i64 m.en) (.int .i64 m.tm) (.int .i64 m.tr) (.int .i64 m.bm) (.int .i64 m.br) (.slice A3.sa m.sats.length A3.sc) (.slice A3.ca m.cus.length A3.cc) (.slice A3.ka m.cost.length A3.kc) (.slice A3.ta m.time.length A3.tc) = v9 := ⟨_, rfl⟩
          rw [hv9] at PS QS HS9 OS RS
          unfold storeI at hv9
          rw [hv9] at hHeld ⊢
          clear hv9
          obtain ⟨n0, n1, n2, n3, n4, n5, n6, n7, n8, nf⟩ := cells9 QS.out
          have QT := Lib.hid (storeI_blk (y0 := .int .i64 m.en) (y1 := .int .i64 m.tm) (y2 := .int .i64 m.tr) (y3 := .int .i64 m.bm) (y4 := .int .i64 m.br) (y5 := .slice A4.sa m.sats.length A4.sc) (y6 := .slice A4.ca m.cus.length A4.cc) (y7 := .slice A4.ka m.cost.length A4.kc) (y8 := .slice A4.ta m.time.length A4.tc) QS.out)
          have PT := Lib.hid ((storeI_other (y0 := .int .i64 m.en) (y1 := .int .i64 m.tm) (y2 := .int .i64 m.tr) (y3 := .int .i64 m.bm) (y4 := .int .i64 m.br) (y5 := .slice A4.sa m.sats.length A4.sc) (y6 := .slice A4.ca m.cus.length A4.cc) (y7 := .slice A4.ka m.cost.length A4.kc) (y8 := .slice A4.ta m.time.length A4.tc) HNE.out).trans PS.out)
          have HT9 := Lib.hid (HS9.out.mod (below_storeI (wr := v9) (y0 := .int .i64 m.en) (y1 := .int .i64 m.tm) (y2 := .int .i64 m.tr) (y3 := .int .i64 m.bm) (y4 := .int .i64 m.br) (y5 := .slice A4.sa m.sats.length A4.sc) (y6 := .slice A4.ca m.cus.length A4.cc) (y7 := .slice A4.ka m.cost.length A4.kc) (y8 := .slice A4.ta m.time.length A4.tc) HGgb.out))
          have OT := Lib.hid (OS.out.storeI_ (y0 := .int .i64 m.en) (y1 := .int .i64 m.tm) (y2 := .int .i64 m.tr) (y3 := .int .i64 m.bm) (y4 := .int .i64 m.br) (y5 := .slice A4.sa m.sats.length A4.sc) (y6 := .slice A4.ca m.cus.length A4.cc) (y7 := .slice A4.ka m.cost.length A4.kc) (y8 := .slice A4.ta m.time.length A4.tc) QS.out)
          have RT := Lib.hid (RS.out.storeI_ (y0 := .int .i64 m.en) (y1 := .int .i64 m.tm) (y2 := .int .i64 m.tr) (y3 := .int .i64 m.bm) (y4 := .int .i64 m.br) (y5 := .slice A4.sa m.sats.length A4.sc) (y6 := .slice A4.ca m.cus.length A4.cc) (y7 := .slice A4.ka m.cost.length A4.kc) (y8 := .slice A4.ta m.time.length A4.tc) QS.out)
          refine wpAnyH_ready (rs := [7]) (by kernel_rfl) (by simp) ?_
          refine AllReadyH.cons rfl (fun K hK => ?_) (AllReadyH.nil)
          go_simp
          refine hK.out _ _ ?_ (fun hHeld => ?_)
          · exact HT9.out.cells
          clear hK K
          try simp only [Act.put, List.setIfInBounds_toArray, List.set_cons_zero, List.set_cons_succ, List.getElem_toArray, List.getElem_cons_zero, List.getElem_cons_succ]
          refine wpAnyH_done (by kernel_rfl) ?_ _
          clear hHeld n0 n1 n2 n3 n4 n5 n6 n7 n8 nf
          go_wp2_with fail
          go_meet
          exact ⟨ga, gb, D0, A3, A4, _, C4, D4, VK4, VT4, _, _, rfl, rfl, ⟨HT9.out, PT.out, OT.out, HGga.out, HDG.out⟩, ⟨QT.out, RT.out, hn1, hn2.2, hn4.2⟩, HNE.out, HGgb.out, HBD.out⟩
        · go_simp
          have hb := below1 v3 (.cells #[.int .i64 0, .int .i64 0, .int .i64 0, .int .i64 0, .int .i64 0, .slice none 0 0, .slice none 0 0, .slice none 0 0, .slice none 0 0] 38)
          have H4 := Lib.hid (H3.out.later hb)
          have P4 := Lib.hid (heap_alloc_new v3 (.cells #[.int .i64 0, .int .i64 0, .int .i64 0, .int .i64 0, .int .i64 0, .slice none 0 0, .slice none 0 0, .slice none 0 0, .slice none 0 0] 38))
          have Q4 := Lib.hid ((hb.block _ (Array.getElem?_eq_some_iff.1 Q3.out).1).trans Q3.out)
          have O4 := Lib.hid (O3.out.later hb)
          have E4 := Lib.hid (Nat.le_trans E3.out hb.size)
          refine hK.out _ _ ?_ (fun hHeld => ?_)
          · exact H4.out.cells
          clear hK K
          try simp only [Act.put, List.setIfInBounds_toArray, List.set_cons_zero, List.set_cons_succ, List.getElem_toArray, List.getElem_cons_zero, List.getElem_cons_succ]
          obtain ⟨ga, hga⟩ : ∃ g, v3.heap.size = g := ⟨_, rfl⟩
          have HGga : Hid (w.heap.size + 1 ≤ ga) := Lib.hid (by rw [← hga]; exact H3.out.lt)
          have HNE : Hid (ga ≠ gb) := Lib.hid (by have := (Array.getElem?_eq_some_iff.1 Q3.out).1; omega)
          obtain ⟨v4, hv4⟩ : ∃ W9, World.alloc v3 (.cells #[.int .i64 0, .int .i64 0, .int .i64 0, .int .i64 0, .int .i64 0, .slice none 0 0, .slice none 0 0, .slice none 0 0, .slice none 0 0] 38) = W9 := ⟨_, rfl⟩
          rw [hv4] at hHeld H4 P4 Q4 O4 E4 ⊢
          rw [hga] at P4 ⊢
          clear hga hv4 hb
          refine wpAnyH_ready (rs := [3]) (by kernel_rfl) (by simp) ?_
          refine AllReadyH.cons rfl (fun K hK => ?_) (AllReadyH.nil)
          go_simp
          refine (HMK.out _ (H4.out.here HSM.out)).mono ?_
          rintro e v5 ⟨⟨A4, rfl, C4, D4, VK4, VT4, hown⟩, hb⟩
          have R5 := Lib.hid hown
          have HBD : Hid (D0 ≤ v4.heap.size + 3) := Lib.hid (by have := E4.out; omega)
          have H5 := Lib.hid (H4.out.later hb)
          have P5 := Lib.hid ((hb.block _ (Array.getElem?_eq_some_iff.1 P4.out).1).trans P4.out)
          have Q5 := Lib.hid ((hb.block _ (Array.getElem?_eq_some_iff.1 Q4.out).1).trans Q4.out)
          have O5 := Lib.hid (O4.out.later hb)
          have E5 := Lib.hid (Nat.le_trans E4.out hb.size)
          clear hown hb
          refine hK.out _ _ ?_ (fun hHeld => ?_)
          · exact H5.out.cells
          clear hK K
          try simp only [Act.put, List.setIfInBounds_toArray, List.set_cons_zero, List.set_cons_succ, List.getElem_toArray, List.getElem_cons_zero, List.getElem_cons_succ]
          obtain ⟨n0, n1, n2, n3, n4, n5, n6, n7, n8, nf⟩ := cells9 P5.out
          have PS := Lib.hid (storeI_blk (y0 := .int .i64 m.en) (y1 := .int .i64 m.tm) (y2 := .int .i64 m.tr) (y3 := .int .i64 m.bm) (y4 := .int .i64 m.br) (y5 := .slice A3.sa m.sats.length A3.sc) (y6 := .slice A3.ca m.cus.length A3.cc) (y7 := .slice A3.ka m.cost.length A3.kc) (y8 := .slice A3.ta m.time.length A3.tc) P5.out)
          have QS := Lib.hid ((storeI_other (y0 := .int .i64 m.en) (y1 := .int .i64 m.tm) (y2 := .int .i64 m.tr) (y3 := .int .i64 m.bm) (y4 := .int .i64 m.br) (y5 := .slice A3.sa m.sats.length A3.sc) (y6 := .slice A3.ca m.cus.length A3.cc) (y7 := .slice A3.ka m.cost.length A3.kc) (y8 := .slice A3.ta m.time.length A3.tc) (Ne.symm HNE.out)).trans Q5.out)
          have HS9 := Lib.hid (H5.out.mod (below_storeI (wr := v5) (y0 := .int .i64 m.en) (y1 := .int .i64 m.tm) (y2 := .int .i64 m.tr) (y3 := .int .i64 m.bm) (y4 := .int .i64 m.br) (y5 := .slice A3.sa m.sats.length A3.sc) (y6 := .slice A3.ca m.cus.length A3.cc) (y7 := .slice A3.ka m.cost.length A3.kc) (y8 := .slice A3.ta m.time.length A3.tc) HGga.out))
          have OS := Lib.hid (O5.out.storeI_ (y0 := .int .i64 m.en) (y1 := .int .i64 m.tm) (y2 := .int .i64 m.tr) (y3 := .int .i64 m.bm) (y4 := .int .i64 m.br) (y5 := .slice A3.sa m.sats.length A3.sc) (y6 := .slice A3.ca m.cus.length A3.cc) (y7 := .slice A3.ka m.cost.length A3.kc) (y8 := .slice A3.ta m.time.length A3.tc) P5.out)
          have RS := Lib.hid (R5.out.storeI_ (y0 := .int .i64 m.en) (y1 := .int .i64 m.tm) (y2 := .int .i64 m.tr) (y3 := .int .i64 m.bm) (y4 := .int .i64 m.br) (y5 := .slice A3.sa m.sats.length A3.sc) (y6 := .slice A3.ca m.cus.length A3.cc) (y7 := .slice A3.ka m.cost.length A3.kc) (y8 := .slice A3.ta m.time.length A3.tc) P5.out)
          refine wpAnyH_ready (rs := [6]) (by kernel_rfl) (by simp) ?_
          refine AllReadyH.cons rfl (fun K hK => ?_) (AllReadyH.nil)
          go_simp
          refine hK.out _ _ ?_ (fun hHeld => ?_)
          · exact HS9.out.cells
          clear hK K
          try simp only [Act.put, List.setIfInBounds_toArray, List.set_cons_zero, List.set_cons_succ, List.getElem_toArray, List.getElem_cons_zero, List.getElem_cons_succ]
          clear n0 n1 n2 n3 n4 n5 n6 n7 n8 nf
          obtain ⟨v9, hv9⟩ : ∃ v9, storeI v5 ga (.int .i64 m.en) (.int .i64 m.tm) (.int .i64 m.tr) (.int .i64 m.bm) (.int .i64 m.br) (.slice A3.sa m.sats.length A3.sc) (.slice A3.ca m.cus.length A3.cc) (.slice A3.ka m.cost.length A3.kc) (.slice A3.ta m.time.length A3.tc) = v9 := ⟨_, rfl⟩
          rw [hv9] at PS QS HS9 OS RS
          unfold storeI at hv9
          rw [hv9] at hHeld ⊢
          clear hv9
          obtain ⟨n0, n1, n2, n3, n4, n5, n6, n7, n8, nf⟩ := cells9 QS.out
          have QT := Lib.hid (storeI_blk (y0 := .int .i64 m.en) (y1 := .int .i64 m.tm) (y2 := .int .i64 m.tr) (y3 := .int .i64 m.bm) (y4 := .int .i64 m.br) (y5 := .slice A4.sa m.sats.length A4.sc) (y6 := .slice A4.ca m.cus.length A4.cc) (y7 := .slice A4.ka m.cost.length A4.kc) (y8 := .slice A4.ta m.time.length A4.tc) QS.out)
          have PT := Lib.hid ((storeI_other (y0 := .int .i64 m.en) (y1 := .int .i64 m.tm) (y2 := .int .i64 m.tr) (y3 := .int .i64 m.bm) (y4 := .int .i64 m.br) (y5 := .slice A4.sa m.sats.length A4.sc) (y6 := .slice A4.ca m.cus.length A4.cc) (y7 := .slice A4.ka m.cost.length A4.kc) (y8 := .slice A4.ta m.time.length A4.tc) HNE.out).trans PS.out)
          have HT9 := Lib.hid (HS9.out.mod (below_storeI (wr := v9) (y0 := .int .i64 m.en) (y1 := .int .i64 m.tm) (y2 := .int .i64 m.tr) (y3 := .int .i64 m.bm) (y4 := .int .i64 m.br) (y5 := .slice A4.sa m.sats.length A4.sc) (y6 := .slice A4.ca m.cus.length A4.cc) (y7 := .slice A4.ka m.cost.length A4.kc) (y8 := .slice A4.ta m.time.length A4.tc) HGgb.out))
          have OT := Lib.hid (OS.out.storeI_ (y0 := .int .i64 m.en) (y1 := .int .i64 m.tm) (y2 := .int .i64 m.tr) (y3 := .int .i64 m.bm) (y4 := .int .i64 m.br) (y5 := .slice A4.sa m.sats.length A4.sc) (y6 := .slice A4.ca m.cus.length A4.cc) (y7 := .slice A4.ka m.cost.length A4.kc) (y8 := .slice A4.ta m.time.length A4.tc) QS.out)
          have RT := Lib.hid (RS.out.storeI_ (y0 := .int .i64 m.en) (y1 := .int .i64 m.tm) (y2 := .int .i64 m.tr) (y3 := .int .i64 m.bm) (y4 := .int .i64 m.br) (y5 := .slice A4.sa m.sats.length A4.sc) (y6 := .slice A4.ca m.cus.length A4.cc) (y7 := .slice A4.ka m.cost.length A4.kc) (y8 := .slice A4.ta m.time.length A4.tc) QS.out)
          refine wpAnyH_ready (rs := [7]) (by kernel_rfl) (by simp) ?_
          refine AllReadyH.cons rfl (fun K hK => ?_) (AllReadyH.nil)
          go_simp
          refine hK.out _ _ ?_ (fun hHeld => ?_)
          · exact HT9.out.cells
          clear hK K
          try simp only [Act.put, List.setIfInBounds_toArray, List.set_cons_zero, List.set_cons_succ, List.getElem_toArray, List.getElem_cons_zero, List.getElem_cons_succ]
          refine wpAnyH_done (by kernel_rfl) ?_ _
          clear hHeld n0 n1 n2 n3 n4 n5 n6 n7 n8 nf
          go_wp2_with fail
          go_meet
          exact ⟨ga, gb, D0, A3, A4, _, C4, D4, VK4, VT4, _, _, rfl, rfl, ⟨HT9.out, PT.out, OT.out, HGga.out, HDG.out⟩, ⟨QT.out, RT.out, hn1, hn2.2, hn4.2⟩, HNE.out, HGgb.out, HBD.out⟩
    · go_simp
      have hb := below1 v1 (.cells #[.int .i64 0, .int .i64 0, .int .i64 0, .int .i64 0, .int .i64 0, .slice none 0 0, .slice none 0 0, .slice none 0 0, .slice none 0 0] 38)
      have H2 := Lib.hid (H1.out.later hb)
      have P2 := Lib.hid (heap_alloc_new v1 (.cells #[.int .i64 0, .int .i64 0, .int .i64 0, .int .i64 0, .int .i64 0, .slice none 0 0, .slice none 0 0, .slice none 0 0, .slice none 0 0] 38))
      refine hK.out _ _ ?_ (fun hHeld => ?_)
      · exact H2.out.cells
      clear hK K
      try simp only [Act.put, List.setIfInBounds_toArray, List.set_cons_zero, List.set_cons_succ, List.getElem_toArray, List.getElem_cons_zero, List.getElem_cons_succ]
      obtain ⟨ga, hga⟩ : ∃ g, v1.heap.size = g := ⟨_, rfl⟩
      have HGga : Hid (w.heap.size + 1 ≤ ga) := Lib.hid (by rw [← hga]; exact H1.out.lt)
      obtain ⟨v2, hv2⟩ : ∃ W9, World.alloc v1 (.cells #[.int .i64 0, .int .i64 0, .int .i64 0, .int .i64 0, .int .i64 0, .slice none 0 0, .slice none 0 0, .slice none 0 0, .slice none 0 0] 38) = W9 := ⟨_, rfl⟩
      rw [hv2] at hHeld H2 P2 ⊢
      rw [hga] at P2 ⊢
      clear hga hv2 hb
      refine wpAnyH_ready (rs := [1, 5]) (by kernel_rfl) (by simp) ?_
      refine AllReadyH.cons rfl (fun K hK => ?_) (AllReadyH.cons rfl (fun K hK => ?_) (AllReadyH.nil))
      · go_simp
        refine (HMK.out _ (H2.out.here HSM.out)).mono ?_
        rintro e v3 ⟨⟨A3, rfl, C3, D3, VK3, VT3, hown⟩, hb⟩
        have O3 := Lib.hid (AOwn.make hown)
        obtain ⟨D0, hD0⟩ : ∃ D0, v3.heap.size = D0 := ⟨_, rfl⟩
        have E3 : Hid (D0 ≤ v3.heap.size) := Lib.hid (by rw [hD0]; exact Nat.le_refl _)
        rw [hD0] at O3
        have H3 := Lib.hid (H2.out.later hb)
        have P3 := Lib.hid ((hb.block _ (Array.getElem?_eq_some_iff.1 P2.out).1).trans P2.out)
        have HDG : Hid (w.heap.size + 1 ≤ D0) := Lib.hid (by rw [← hD0]; exact H3.out.lt)
        clear hD0
        clear hown hb
        refine hK.out _ _ ?_ (fun hHeld => ?_)
        · exact H3.out.cells
        clear hK K
        try simp only [Act.put, List.setIfInBounds_toArray, List.set_cons_zero, List.set_cons_succ, List.getElem_toArray, List.getElem_cons_zero, List.getElem_cons_succ]
        refine wpAnyH_ready (rs := [3, 5]) (by kernel_rfl) (by simp) ?_
        refine AllReadyH.cons rfl (fun K hK => ?_) (AllReadyH.cons rfl (fun K hK => ?_) (AllReadyH.nil))
        · go_simp
          refine (HMK.out _ (H3.out.here HSM.out)).mono ?_
          rintro e v4 ⟨⟨A4, rfl, C4, D4, VK4, VT4, hown⟩, hb⟩
          have R4 := Lib.hid hown
          have HBD : Hid (D0 ≤ v3.heap.size + 3) := Lib.hid (by have := E3.out; omega)
          have H4 := Lib.hid (H3.out.later hb)
          have P4 := Lib.hid ((hb.block _ (Array.getElem?_eq_some_iff.1 P3.out).1).trans P3.out)
          have O4 := Lib.hid (O3.out.later hb)
          have E4 := Lib.hid (Nat.le_trans E3.out hb.size)
          clear hown hb
          refine hK.out _ _ ?_ (fun hHeld => ?_)
          · exact H4.out.cells
          clear hK K
          try simp only [Act.put, List.setIfInBounds_toArray, List.set_cons_zero, List.set_cons_succ, List.getElem_toArray, List.getElem_cons_zero, List.getElem_cons_succ]
          refine wpAnyH_ready (rs := [5]) (by kernel_rfl) (by simp) ?_
          refine AllReadyH.cons rfl (fun K hK => ?_) (AllReadyH.nil)
          go_simp
          have hb := below1 v4 (.cells #[.int .i64 0, .int .i64 0, .int .i64 0, .int .i64 0, .int .i64 0, .slice none 0 0, .slice none 0 0, .slice none 0 0, .slice none 0 0] 38)
          have H5 := Lib.hid (H4.out.later hb)
          have Q5 := Lib.hid (heap_alloc_new v4 (.cells #[.int .i64 0, .int .i64 0, .int .i64 0, .int .i64 0, .int .i64 0, .slice none 0 0, .slice none 0 0, .slice none 0 0, .slice none 0 0] 38))
          have P5 := Lib.hid ((hb.block _ (Array.getElem?_eq_some_iff.1 P4.out).1).trans P4.out)
          have O5 := Lib.hid (O4.out.later hb)
          have E5 := Lib.hid (Nat.le_trans E4.out hb.size)
          have R5 := Lib.hid (R4.out.later hb)
          refine hK.out _ _ ?_ (fun hHeld => ?_)
          · exact H5.out.cells
          clear hK K
          try simp only [Act.put, List.setIfInBounds_toArray, List.set_cons_zero, List.set_cons_succ, List.getElem_toArray, List.getElem_cons_zero, List.getElem_cons_succ]
          obtain ⟨gb, hgb⟩ : ∃ g, v4.heap.size = g := ⟨_, rfl⟩
          have HGgb : Hid (w.heap.size + 1 ≤ gb) := Lib.hid (by rw [← hgb]; exact H4.out.lt)
          have HNE : Hid (ga ≠ gb) := Lib.hid (by have := (Array.getElem?_eq_some_iff.1 P4.out).1; omega)
          obtain ⟨v5, hv5⟩ : ∃ W9, World.alloc v4 (.cells #[.int .i64 0, .int .i64 0, .int .i64 0, .int .i64 0, .int .i64 0, .slice none 0 0, .slice none 0 0, .slice none 0 0, .slice none 0 0] 38) = W9 := ⟨_, rfl⟩
          rw [hv5] at hHeld H5 Q5 P5 O5 E5 R5 ⊢
          rw [hgb] at Q5 ⊢
          clear hgb hv5 hb
          obtain ⟨n0, n1, n2, n3, n4, n5, n6, n7, n8, nf⟩ := cells9 P5.out
          have PS := Lib.hid (storeI_blk (y0 := .int .i64 m.en) (y1 := .int .i64 m.tm) (y2 := .int .i64 m.tr) (y3 := .int .i64 m.bm) (y4 := .int .i64 m.br) (y5 := .slice A3.sa m.sats.length A3.sc) (y6 := .slice A3.ca m.cus.length A3.cc) (y7 := .slice A3.ka m.cost.length A3.kc) (y8 := .slice A3.ta m.time.length A3.tc) P5.out)
          have QS := Lib.hid ((storeI_other (y0 := .int .i64 m.en) (y1 := .int .i64 m.tm) (y2 := .int .i64 m.tr) (y3 := .int .i64 m.bm) (y4 := .int .i64 m.br) (y5 := .slice A3.sa m.sats.length A3.sc) (y6 := .slice A3.ca m.cus.length A3.cc) (y7 := .slice A3.ka m.cost.length A3.kc) (y8 := .slice A3.ta m.time.length A3.tc) (Ne.symm HNE.out)).trans Q5.out)
          have HS9 := Lib.hid (H5.out.mod (below_storeI (wr := v5) (y0 := .int .i64 m.en) (y1 := .int .i64 m.tm) (y2 := .int .i64 m.tr) (y3 := .int .i64 m.bm) (y4 := .int .i64 m.br) (y5 := .slice A3.sa m.sats.length A3.sc) (y6 := .slice A3.ca m.cus.length A3.cc) (y7 := .slice A3.ka m.cost.length A3.kc) (y8 := .slice A3.ta m.time.length A3.tc) HGga.out))
          have OS := Lib.hid (O5.out.storeI_ (y0 := .int .i64 m.en) (y1 := .int .i64 m.tm) (y2 := .int .i64 m.tr) (y3 := .int .i64 m.bm) (y4 := .int .i64 m.br) (y5 := .slice A3.sa m.sats.length A3.sc) (y6 := .slice A3.ca m.cus.length A3.cc) (y7 := .slice A3.ka m.cost.length A3.kc) (y8 := .slice A3.ta m.time.length A3.tc) P5.out)
          have RS := Lib.hid (R5.out.storeI_ (y0 := .int .i64 m.en) (y1 := .int .i64 m.tm) (y2 := .int .i64 m.tr) (y3 := .int .i64 m.bm) (y4 := .int .i64 m.br) (y5 := .slice A3.sa m.sats.length A3.sc) (y6 := .slice A3.ca m.cus.length A3.cc) (y7 := .slice A3.ka m.cost.length A3.kc) (y8 := .slice A3.ta m.time.length A3.tc) P5.out)
          refine wpAnyH_ready (rs := [6]) (by kernel_rfl) (by simp) ?_
          refine AllReadyH.cons rfl (fun K hK => ?_) (AllReadyH.nil)
          go_simp
          refine hK.out _ _ ?_ (fun hHeld => ?_)
          · exact HS9.out.cells
          clear hK K
          try simp only [Act.put, List.setIfInBounds_toArray, List.set_cons_zero, List.set_cons_succ, List.getElem_toArray, List.getElem_cons_zero, List.getElem_cons_succ]
          clear n0 n1 n2 n3 n4 n5 n6 n7 n8 nf
          obtain ⟨v9, hv9⟩ : ∃ v9, storeI v5 ga (.int .i64 m.en) (.int .i64 m.tm) (.int .i64 m.tr) (.int .i64 m.bm) (.int .i64 m.br) (.slice A3.sa m.sats.length A3.sc) (.slice A3.ca m.cus.length A3.cc) (.slice A3.ka m.cost.length A3.kc) (.slice A3.ta m.time.length A3.tc) = v9 := ⟨_, rfl⟩
          rw [hv9] at PS QS HS9 OS RS
          unfold storeI at hv9
          rw [hv9] at hHeld ⊢
          clear hv9
          obtain ⟨n0, n1, n2, n3, n4, n5, n6, n7, n8, nf⟩ := cells9 QS.out
          have QT := Lib.hid (storeI_blk (y0 := .int .i64 m.en) (y1 := .int .i64 m.tm) (y2 := .int .i64 m.tr) (y3 := .int .i64 m.bm) (y4 := .int .i64 m.br) (y5 := .slice A4.sa m.sats.length A4.sc) (y6 := .slice A4.ca m.cus.length A4.cc) (y7 := .slice A4.ka m.cost.length A4.kc) (y8 := .slice A4.ta m.time.length A4.tc) QS.out)
          have PT := Lib.hid ((storeI_other (y0 := .int .i64 m.en) (y1 := .int .i64 m.tm) (y2 := .int .i64 m.tr) (y3 := .int .i64 m.bm) (y4 := .int .i64 m.br) (y5 := .slice A4.sa m.sats.length A4.sc) (y6 := .slice A4.ca m.cus.length A4.cc) (y7 := .slice A4.ka m.cost.length A4.kc) (y8 := .slice A4.ta m.time.length A4.tc) HNE.out).trans PS.out)
          have HT9 := Lib.hid (HS9.out.mod (below_storeI (wr := v9) (y0 := .int .i64 m.en) (y1 := .int .i64 m.tm) (y2 := .int .i64 m.tr) (y3 := .int .i64 m.bm) (y4 := .int .i64 m.br) (y5 := .slice A4.sa m.sats.length A4.sc) (y6 := .slice A4.ca m.cus.length A4.cc) (y7 := .slice A4.ka m.cost.length A4.kc) (y8 := .slice A4.ta m.time.length A4.tc) HGgb.out))
          have OT := Lib.hid (OS.out.storeI_ (y0 := .int .i64 m.en) (y1 := .int .i64 m.tm) (y2 := .int .i64 m.tr) (y3 := .int .i64 m.bm) (y4 := .int .i64 m.br) (y5 := .slice A4.sa m.sats.length A4.sc) (y6 := .slice A4.ca m.cus.length A4.cc) (y7 := .slice A4.ka m.cost.length A4.kc) (y8 := .slice A4.ta m.time.length A4.tc) QS.out)
          have RT := Lib.hid (RS.out.storeI_ (y0 := .int .i64 m.en) (y1 := .int .i64 m.tm) (y2 := .int .i64 m.tr) (y3 := .int .i64 m.bm) (y4 := .int .i64 m.br) (y5 := .slice A4.sa m.sats.length A4.sc) (y6 := .slice A4.ca m.cus.length A4.cc) (y7 := .slice A4.ka m.cost.length A4.kc) (y8 := .slice A4.ta m.time.length A4.tc) QS.out)
          refine wpAnyH_ready (rs := [7]) (by kernel_rfl) (by simp) ?_
          refine AllReadyH.cons rfl (fun K hK => ?_) (AllReadyH.nil)
          go_simp
          refine hK.out _ _ ?_ (fun hHeld => ?_)
          · exact HT9.out.cells
          clear hK K
          try simp only [Act.put, List.setIfInBounds_toArray, List.set_cons_zero, List.set_cons_succ, List.getElem_toArray, List.getElem_cons_zero, List.getElem_cons_succ]
          refine wpAnyH_done (by kernel_rfl) ?_ _
          clear hHeld n0 n1 n2 n3 n4 n5 n6 n7 n8 nf
          go_wp2_with fail
          go_meet
          exact ⟨ga, gb, D0, A3, A4, _, C4, D4, VK4, VT4, _, _, rfl, rfl, ⟨HT9.out, PT.out, OT.out, HGga.out, HDG.out⟩, ⟨QT.out, RT.out, hn1, hn2.2, hn4.2⟩, HNE.out, HGgb.out, HBD.out⟩
        · go_simp
          have hb := below1 v3 (.cells #[.int .i64 0, .int .i64 0, .int .i64 0, .int .i64 0, .int .i64 0, .slice none 0 0, .slice none 0 0, .slice none 0 0, .slice none 0 0] 38)
          have H4 := Lib.hid (H3.out.later hb)
          have Q4 := Lib.hid (heap_alloc_new v3 (.cells #[.int .i64 0, .int .i64 0, .int .i64 0, .int .i64 0, .int .i64 0, .slice none 0 0, .slice none 0 0, .slice none 0 0, .slice none 0 0] 38))
          have P4 := Lib.hid ((hb.block _ (Array.getElem?_eq_some_iff.1 P3.out).1).trans P3.out)
          have O4 := Lib.hid (O3.out.later hb)
          have E4 := Lib.hid (Nat.le_trans E3.out hb.size)
          refine hK.out _ _ ?_ (fun hHeld => ?_)
          · exact H4.out.cells
          clear hK K
          try simp only [Act.put, List.setIfInBounds_toArray, List.set_cons_zero, List.set_cons_succ, List.getElem_toArray, List.getElem_cons_zero, List.getElem_cons_succ]
          obtain ⟨gb, hgb⟩ : ∃ g, v3.heap.size = g := ⟨_, rfl⟩
          have HGgb : Hid (w.heap.size + 1 ≤ gb) := Lib.hid (by rw [← hgb]; exact H3.out.lt)
          have HNE : Hid (ga ≠ gb) := Lib.hid (by have := (Array.getElem?_eq_some_iff.1 P3.out).1; omega)
          obtain ⟨v4, hv4⟩ : ∃ W9, World.alloc v3 (.cells #[.int .i64 0, .int .i64 0, .int .i64 0, .int .i64 0, .int .i64 0, .slice none 0 0, .slice none 0 0, .slice none 0 0, .slice none 0 0] 38) = W9 := ⟨_, rfl⟩
          rw [hv4] at hHeld H4 Q4 P4 O4 E4 ⊢
          rw [hgb] at Q4 ⊢
          clear hgb hv4 hb
          refine wpAnyH_ready (rs := [3]) (by kernel_rfl) (by simp) ?_
          refine AllReadyH.cons rfl (fun K hK => ?_) (AllReadyH.nil)
          go_simp
          refine (HMK.out _ (H4.out.here HSM.out)).mono ?_
          rintro e v5 ⟨⟨A4, rfl, C4, D4, VK4, VT4, hown⟩, hb⟩
          have R5 := Lib.hid hown
          have HBD : Hid (D0 ≤ v4.heap.size + 3) := Lib.hid (by have := E4.out; omega)
          have H5 := Lib.hid (H4.out.later hb)
          have P5 := Lib.hid ((hb.block _ (Array.getElem?_eq_some_iff.1 P4.out).1).trans P4.out)
          have Q5 := Lib.hid ((hb.block _ (Array.getElem?_eq_some_iff.1 Q4.out).1).trans Q4.out)
          have O5 := Lib.hid (O4.out.later hb)
          have E5 := Lib.hid (Nat.le_trans E4.out hb.size)
          clear hown hb
          refine hK.out _ _ ?_ (fun hHeld => ?_)
          · exact H5.out.cells
          clear hK K
          try simp only [Act.put, List.setIfInBounds_toArray, List.set_cons_zero, List.set_cons_succ, List.getElem_toArray, List.getElem_cons_zero, List.getElem_cons_succ]
          obtain ⟨n0, n1, n2, n3, n4, n5, n6, n7, n8, nf⟩ := cells9 P5.out
          have PS := Lib.hid (storeI_blk (y0 := .int .i64 m.en) (y1 := .int .i64 m.tm) (y2 := .int .i64 m.tr) (y3 := .int .i64 m.bm) (y4 := .int .i64 m.br) (y5 := .slice A3.sa m.sats.length A3.sc) (y6 := .slice A3.ca m.cus.length A3.cc) (y7 := .slice A3.ka m.cost.length A3.kc) (y8 := .slice A3.ta m.time.length A3.tc) P5.out)
          have QS := Lib.hid ((storeI_other (y0 := .int .i64 m.en) (y1 := .int .i64 m.tm) (y2 := .int .i64 m.tr) (y3 := .int .i64 m.bm) (y4 := .int .i64 m.br) (y5 := .slice A3.sa m.sats.length A3.sc) (y6 := .slice A3.ca m.cus.length A3.cc) (y7 := .slice A3.ka m.cost.length A3.kc) (y8 := .slice A3.ta m.time.length A3.tc) (Ne.symm HNE.out)).trans Q5.out)
          have HS9 := Lib.hid (H5.out.mod (below_storeI (wr := v5) (y0 := .int .i64 m.en) (y1 := .int .i64 m.tm) (y2 := .int .i64 m.tr) (y3 := .int .i64 m.bm) (y4 := .int .i64 m.br) (y5 := .slice A3.sa m.sats.length A3.sc) (y6 := .slice A3.ca m.cus.length A3.cc) (y7 := .slice A3.ka m.cost.length A3.kc) (y8 := .slice A3.ta m.time.length A3.tc) HGga.out))
          have OS := Lib.hid (O5.out.storeI_ (y0 := .int .i64 m.en) (y1 := .int .i64 m.tm) (y2 := .int .i64 m.tr) (y3 := .int .i64 m.bm) (y4 := .int .i64 m.br) (y5 := .slice A3.sa m.sats.length A3.sc) (y6 := .slice A3.ca m.cus.length A3.cc) (y7 := .slice A3.ka m.cost.length A3.kc) (y8 := .slice A3.ta m.time.length A3.tc) P5.out)
          have RS := Lib.hid (R5.out.storeI_ (y0 := .int .i64 m.en) (y1 := .int .i64 m.tm) (y2 := .int .i64 m.tr) (y3 := .int .i64 m.bm) (y4 := .int .i64 m.br) (y5 := .slice A3.sa m.sats.length A3.sc) (y6 := .slice A3.ca m.cus.length A3.cc) (y7 := .slice A3.ka m.cost.length A3.kc) (y8 := .slice A3.ta m.time.length A3.tc) P5.out)
          refine wpAnyH_ready (rs := [6]) (by kernel_rfl) (by simp) ?_
          refine AllReadyH.cons rfl (fun K hK => ?_) (AllReadyH.nil)
          go_simp
          refine hK.out _ _ ?_ (fun hHeld => ?_)
          · exact HS9.out.cells
          clear hK K
          try simp only [Act.put, List.setIfInBounds_toArray, List.set_cons_zero, List.set_cons_succ, List.getElem_toArray, List.getElem_cons_zero, List.getElem_cons_succ]
          clear n0 n1 n2 n3 n4 n5 n6 n7 n8 nf
          obtain ⟨v9, hv9⟩ : ∃ v9, storeI v5 ga (.int .i64 m.en) (.int .i64 m.tm) (.int .i64 m.tr) (.int .i64 m.bm) (.int .i64 m.br) (.slice A3.sa m.sats.length A3.sc) (.slice A3.ca m.cus.length A3.cc) (.slice A3.ka m.cost.length A3.kc) (.slice A3.ta m.time.length A3.tc) = v9 := ⟨_, rfl⟩
          rw [hv9] at PS QS HS9 OS RS
          unfold storeI at hv9
          rw [hv9] at hHeld ⊢
          clear hv9
          obtain ⟨n0, n1, n2, n3, n4, n5, n6, n7, n8, nf⟩ := cells9 QS.out
          have QT := Lib.hid (storeI_blk (y0 := .int .i64 m.en) (y1 := .int .i64 m.tm) (y2 := .int .i64 m.tr) (y3 := .int .i64 m.bm) (y4 := .int .i64 m.br) (y5 := .slice A4.sa m.sats.length A4.sc) (y6 := .slice A4.ca m.cus.length A4.cc) (y7 := .slice A4.ka m.cost.length A4.kc) (y8 := .slice A4.ta m.time.length A4.tc) QS.out)
          have PT := Lib.hid ((storeI_other (y0 := .int .i64 m.en) (y1 := .int .i64 m.tm) (y2 := .int .i64 m.tr) (y3 := .int .i64 m.bm) (y4 := .int .i64 m.br) (y5 := .slice A4.sa m.sats.length A4.sc) (y6 := .slice A4.ca m.cus.length A4.cc) (y7 := .slice A4.ka m.cost.length A4.kc) (y8 := .slice A4.ta m.time.length A4.tc) HNE.out).trans PS.out)
          have HT9 := Lib.hid (HS9.out.mod (below_storeI (wr := v9) (y0 := .int .i64 m.en) (y1 := .int .i64 m.tm) (y2 := .int .i64 m.tr) (y3 := .int .i64 m.bm) (y4 := .int .i64 m.br) (y5 := .slice A4.sa m.sats.length A4.sc) (y6 := .slice A4.ca m.cus.length A4.cc) (y7 := .slice A4.ka m.cost.length A4.kc) (y8 := .slice A4.ta m.time.length A4.tc) HGgb.out))
          have OT := Lib.hid (OS.out.storeI_ (y0 := .int .i64 m.en) (y1 := .int .i64 m.tm) (y2 := .int .i64 m.tr) (y3 := .int .i64 m.bm) (y4 := .int .i64 m.br) (y5 := .slice A4.sa m.sats.length A4.sc) (y6 := .slice A4.ca m.cus.length A4.cc) (y7 := .slice A4.ka m.cost.length A4.kc) (y8 := .slice A4.ta m.time.length A4.tc) QS.out)
          have RT := Lib.hid (RS.out.storeI_ (y0 := .int .i64 m.en) (y1 := .int .i64 m.tm) (y2 := .int .i64 m.tr) (y3 := .int .i64 m.bm) (y4 := .int .i64 m.br) (y5 := .slice A4.sa m.sats.length A4.sc) (y6 := .slice A4.ca m.cus.length A4.cc) (y7 := .slice A4.ka m.cost.length A4.kc) (y8 := .slice A4.ta m.time.length A4.tc) QS.out)
          refine wpAnyH_ready (rs := [7]) (by kernel_rfl) (by simp) ?_
          refine AllReadyH.cons rfl (fun K hK => ?_) (AllReadyH.nil)
          go_simp
          refine hK.out _ _ ?_ (fun hHeld => ?_)
          · exact HT9.out.cells
          clear hK K
          try simp only [Act.put, List.setIfInBounds_toArray, List.set_cons_zero, List.set_cons_succ, List.getElem_toArray, List.getElem_cons_zero, List.getElem_cons_succ]
          refine wpAnyH_done (by kernel_rfl) ?_ _
          clear hHeld n0 n1 n2 n3 n4 n5 n6 n7 n8 nf
          go_wp2_with fail
          go_meet
          exact ⟨ga, gb, D0, A3, A4, _, C4, D4, VK4, VT4, _, _, rfl, rfl, ⟨HT9.out, PT.out, OT.out, HGga.out, HDG.out⟩, ⟨QT.out, RT.out, hn1, hn2.2, hn4.2⟩, HNE.out, HGgb.out, HBD.out⟩
      · go_simp
        have hb := below1 v2 (.cells #[.int .i64 0, .int .i64 0, .int .i64 0, .int .i64 0, .int .i64 0, .slice none 0 0, .slice none 0 0, .slice none 0 0, .slice none 0 0] 38)
        have H3 := Lib.hid (H2.out.later hb)
        have Q3 := Lib.hid (heap_alloc_new v2 (.cells #[.int .i64 0, .int .i64 0, .int .i64 0, .int .i64 0, .int .i64 0, .slice none 0 0, .slice none 0 0, .slice none 0 0, .slice none 0 0] 38))
        have P3 := Lib.hid ((hb.block _ (Array.getElem?_eq_some_iff.1 P2.out).1).trans P2.out)
        refine hK.out _ _ ?_ (fun hHeld => ?_)
        · exact H3.out.cells
        clear hK K
        try simp only [Act.put, List.setIfInBounds_toArray, List.set_cons_zero, List.set_cons_succ, List.getElem_toArray, List.getElem_cons_zero, List.getElem_cons_succ]
        obtain ⟨gb, hgb⟩ : ∃ g, v2.heap.size = g := ⟨_, rfl⟩
        have HGgb : Hid (w.heap.size + 1 ≤ gb) := Lib.hid (by rw [← hgb]; exact H2.out.lt)
        have HNE : Hid (ga ≠ gb) := Lib.hid (by have := (Array.getElem?_eq_some_iff.1 P2.out).1; omega)
        obtain ⟨v3, hv3⟩ : ∃ W9, World.alloc v2 (.cells #[.int .i64 0, .int .i64 0, .int .i64 0, .int .i64 0, .int .i64 0, .slice none 0 0, .slice none 0 0, .slice none 0 0, .slice none 0 0] 38) = W9 := ⟨_, rfl⟩
        rw [hv3] at hHeld H3 Q3 P3 ⊢
        rw [hgb] at Q3 ⊢
        clear hgb hv3 hb
        refine wpAnyH_ready (rs := [1]) (by kernel_rfl) (by simp) ?_
        refine AllReadyH.cons rfl (fun K hK => ?_) (AllReadyH.nil)
        go_simp
        refine (HMK.out _ (H3.out.here HSM.out)).mono ?_
        rintro e v4 ⟨⟨A3, rfl, C3, D3, VK3, VT3, hown⟩, hb⟩
        have O4 := Lib.hid (AOwn.make hown)
        obtain ⟨D0, hD0⟩ : ∃ D0, v4.heap.size = D0 := ⟨_, rfl⟩
        have E4 : Hid (D0 ≤ v4.heap.size) := Lib.hid (by rw [hD0]; exact Nat.le_refl _)
        rw [hD0] at O4
        have H4 := Lib.hid (H3.out.later hb)
        have P4 := Lib.hid ((hb.block _ (Array.getElem?_eq_some_iff.1 P3.out).1).trans P3.out)
        have Q4 := Lib.hid ((hb.block _ (Array.getElem?_eq_some_iff.1 Q3.out).1).trans Q3.out)
        have HDG : Hid (w.heap.size + 1 ≤ D0) := Lib.hid (by rw [← hD0]; exact H4.out.lt)
        clear hD0
        clear hown hb
        refine hK.out _ _ ?_ (fun hHeld => ?_)
        · exact H4.out.cells
        clear hK K
        try simp only [Act.put, List.setIfInBounds_toArray, List.set_cons_zero, List.set_cons_succ, List.getElem_toArray, List.getElem_cons_zero, List.getElem_cons_succ]
        refine wpAnyH_ready (rs := [3]) (by kernel_rfl) (by simp) ?_
        refine AllReadyH.cons rfl (fun K hK => ?_) (AllReadyH.nil)
        go_simp
        refine (HMK.out _ (H4.out.here HSM.out)).mono ?_
        rintro e v5 ⟨⟨A4, rfl, C4, D4, VK4, VT4, hown⟩, hb⟩
        have R5 := Lib.hid hown
        have HBD : Hid (D0 ≤ v4.heap.size + 3) := Lib.hid (by have := E4.out; omega)
        have H5 := Lib.hid (H4.out.later hb)
        have P5 := Lib.hid ((hb.block _ (Array.getElem?_eq_some_iff.1 P4.out).1).trans P4.out)
        have Q5 := Lib.hid ((hb.block _ (Array.getElem?_eq_some_iff.1 Q4.out).1).trans Q4.out)
        have O5 := Lib.hid (O4.out.later hb)
        have E5 := Lib.hid (Nat.le_trans E4.out hb.size)
        clear hown hb
        refine hK.out _ _ ?_ (fun hHeld => ?_)
        · exact H5.out.cells
        clear hK K
        try simp only [Act.put, List.setIfInBounds_toArray, List.set_cons_zero, List.set_cons_succ, List.getElem_toArray, List.getElem_cons_zero, List.getElem_cons_succ]
        obtain ⟨n0, n1, n2, n3, n4, n5, n6, n7, n8, nf⟩ := cells9 P5.out
        have PS := Lib.hid (storeI_blk (y0 := .int .i64 m.en) (y1 := .int .i64 m.tm) (y2 := .int .i64 m.tr) (y3 := .int .i64 m.bm) (y4 := .int .i64 m.br) (y5 := .slice A3.sa m.sats.length A3.sc) (y6 := .slice A3.ca m.cus.length A3.cc) (y7 := .slice A3.ka m.cost.length A3.kc) (y8 := .slice A3.ta m.time.length A3.tc) P5.out)
        have QS := Lib.hid ((storeI_other (y0 := .int .i64 m.en) (y1 := .int .i64 m.tm) (y2 := .int .i64 m.tr) (y3 := .int .i64 m.bm) (y4 := .int .i64 m.br) (y5 := .slice A3.sa m.sats.length A3.sc) (y6 := .slice A3.ca m.cus.length A3.cc) (y7 := .slice A3.ka m.cost.length A3.kc) (y8 := .slice A3.ta m.time.length A3.tc) (Ne.symm HNE.out)).trans Q5.out)
        have HS9 := Lib.hid (H5.out.mod (below_storeI (wr := v5) (y0 := .int .i64 m.en) (y1 := .int .i64 m.tm) (y2 := .int .i64 m.tr) (y3 := .int .i64 m.bm) (y4 := .int .i64 m.br) (y5 := .slice A3.sa m.sats.length A3.sc) (y6 := .slice A3.ca m.cus.length A3.cc) (y7 := .slice A3.ka m.cost.length A3.kc) (y8 := .slice A3.ta m.time.length A3.tc) HGga.out))
        have OS := Lib.hid (O5.out.storeI_ (y0 := .int .i64 m.en) (y1 := .int .i64 m.tm) (y2 := .int .i64 m.tr) (y3 := .int .i64 m.bm) (y4 := .int .i64 m.br) (y5 := .slice A3.sa m.sats.length A3.sc) (y6 := .slice A3.ca m.cus.length A3.cc) (y7 := .slice A3.ka m.cost.length A3.kc) (y8 := .slice A3.ta m.time.length A3.tc) P5.out)
        have RS := Lib.hid (R5.out.storeI_ (y0 := .int .i64 m.en) (y1 := .int .i64 m.tm) (y2 := .int .i64 m.tr) (y3 := .int .i64 m.bm) (y4 := .int .i64 m.br) (y5 := .slice A3.sa m.sats.length A3.sc) (y6 := .slice A3.ca m.cus.length A3.cc) (y7 := .slice A3.ka m.cost.length A3.kc) (y8 := .slice A3.ta m.time.length A3.tc) P5.out)
        refine wpAnyH_ready (rs := [6]) (by kernel_rfl) (by simp) ?_
        refine AllReadyH.cons rfl (fun K hK => ?_) (AllReadyH.nil)
        go_simp
        refine hK.out _ _ ?_ (fun hHeld => ?_)
        · exact HS9.out.cells
        clear hK K
        try simp only [Act.put, List.setIfInBounds_toArray, List.set_cons_zero, List.set_cons_succ, List.getElem_toArray, List.getElem_cons_zero, List.getElem_cons_succ]
        clear n0 n1 n2 n3 n4 n5 n6 n7 n8 nf
        obtain ⟨v9, hv9⟩ : ∃ v9, storeI v5 ga (.int .i64 m.en) (.int .i64 m.tm) (.int .i64 m.tr) (.int .i64 m.bm) (.int .i64 m.br) (.slice A3.sa m.sats.length A3.sc) (.slice A3.ca m.cus.length A3.cc) (.slice A3.ka m.cost.length A3.kc) (.slice A3.ta m.time.length A3.tc) = v9 := ⟨_, rfl⟩
        rw [hv9] at PS QS HS9 OS RS
        unfold storeI at hv9
        rw [hv9] at hHeld ⊢
        clear hv9
        obtain ⟨n0, n1, n2, n3, n4, n5, n6, n7, n8, nf⟩ := cells9 QS.out
        have QT := Lib.hid (storeI_blk (y0 := .int .i64 m.en) (y1 := .int .i64 m.tm) (y2 := .int .i64 m.tr) (y3 := .int .i64 m.bm) (y4 := .int .i64 m.br) (y5 := .slice A4.sa m.sats.length A4.sc) (y6 := .slice A4.ca m.cus.length A4.cc) (y7 := .slice A4.ka m.cost.length A4.kc) (y8 := .slice A4.ta m.time.length A4.tc) QS.out)
        have PT := Lib.hid ((storeI_other (y0 := .int .i64 m.en) (y1 := .int .i64 m.tm) (y2 := .int .i64 m.tr) (y3 := .int .i64 m.bm) (y4 := .int .i64 m.br) (y5 := .slice A4.sa m.sats.length A4.sc) (y6 := .slice A4.ca m.cus.length A4.cc) (y7 := .slice A4.ka m.cost.length A4.kc) (y8 := .slice A4.ta m.time.length A4.tc) HNE.out).trans PS.out)
        have HT9 := Lib.hid (HS9.out.mod (below_storeI (wr := v9) (y0 := .int .i64 m.en) (y1 := .int .i64 m.tm) (y2 := .int .i64 m.tr) (y3 := .int .i64 m.bm) (y4 := .int .i64 m.br) (y5 := .slice A4.sa m.sats.length A4.sc) (y6 := .slice A4.ca m.cus.length A4.cc) (y7 := .slice A4.ka m.cost.length A4.kc) (y8 := .slice A4.ta m.time.length A4.tc) HGgb.out))
        have OT := Lib.hid (OS.out.storeI_ (y0 := .int .i64 m.en) (y1 := .int .i64 m.tm) (y2 := .int .i64 m.tr) (y3 := .int .i64 m.bm) (y4 := .int .i64 m.br) (y5 := .slice A4.sa m.sats.length A4.sc) (y6 := .slice A4.ca m.cus.length A4.cc) (y7 := .slice A4.ka m.cost.length A4.kc) (y8 := .slice A4.ta m.time.length A4.tc) QS.out)
        have RT := Lib.hid (RS.out.storeI_ (y0 := .int .i64 m.en) (y1 := .int .i64 m.tm) (y2 := .int .i64 m.tr) (y3 := .int .i64 m.bm) (y4 := .int .i64 m.br) (y5 := .slice A4.sa m.sats.length A4.sc) (y6 := .slice A4.ca m.cus.length A4.cc) (y7 := .slice A4.ka m.cost.length A4.kc) (y8 := .slice A4.ta m.time.length A4.tc) QS.out)
        refine wpAnyH_ready (rs := [7]) (by kernel_rfl) (by simp) ?_
        refine AllReadyH.cons rfl (fun K hK => ?_) (AllReadyH.nil)
        go_simp
        refine hK.out _ _ ?_ (fun hHeld => ?_)
        · exact HT9.out.cells
        clear hK K
        try simp only [Act.put, List.setIfInBounds_toArray, List.set_cons_zero, List.set_cons_succ, List.getElem_toArray, List.getElem_cons_zero, List.getElem_cons_succ]
        refine wpAnyH_done (by kernel_rfl) ?_ _
        clear hHeld n0 n1 n2 n3 n4 n5 n6 n7 n8 nf
        go_wp2_with fail
        go_meet
        exact ⟨ga, gb, D0, A3, A4, _, C4, D4, VK4, VT4, _, _, rfl, rfl, ⟨HT9.out, PT.out, OT.out, HGga.out, HDG.out⟩, ⟨QT.out, RT.out, hn1, hn2.2, hn4.2⟩, HNE.out, HGgb.out, HBD.out⟩
    · go_simp
      have hb := below1 v1 (.cells #[.int .i64 0, .int .i64 0, .int .i64 0, .int .i64 0, .int .i64 0, .slice none 0 0, .slice none 0 0, .slice none 0 0, .slice none 0 0] 38)
      have H2 := Lib.hid (H1.out.later hb)
      have Q2 := Lib.hid (heap_alloc_new v1 (.cells #[.int .i64 0, .int .i64 0, .int .i64 0, .int .i64 0, .int .i64 0, .slice none 0 0, .slice none 0 0, .slice none 0 0, .slice none 0 0] 38))
      refine hK.out _ _ ?_ (fun hHeld => ?_)
      · exact H2.out.cells
      clear hK K
      try simp only [Act.put, List.setIfInBounds_toArray, List.set_cons_zero, List.set_cons_succ, List.getElem_toArray, List.getElem_cons_zero, List.getElem_cons_succ]
      obtain ⟨gb, hgb⟩ : ∃ g, v1.heap.size = g := ⟨_, rfl⟩
      have HGgb : Hid (w.heap.size + 1 ≤ gb) := Lib.hid (by rw [← hgb]; exact H1.out.lt)
      obtain ⟨v2, hv2⟩ : ∃ W9, World.alloc v1 (.cells #[.int .i64 0, .int .i64 0, .int .i64 0, .int .i64 0, .int .i64 0, .slice none 0 0, .slice none 0 0, .slice none 0 0, .slice none 0 0] 38) = W9 := ⟨_, rfl⟩
      rw [hv2] at hHeld H2 Q2 ⊢
      rw [hgb] at Q2 ⊢
      clear hgb hv2 hb
      refine wpAnyH_ready (rs := [1, 4]) (by kernel_rfl) (by simp) ?_
      refine AllReadyH.cons rfl (fun K hK => ?_) (AllReadyH.cons rfl (fun K hK => ?_) (AllReadyH.nil))
      · go_simp
        refine (HMK.out _ (H2.out.here HSM.out)).mono ?_
        rintro e v3 ⟨⟨A3, rfl, C3, D3, VK3, VT3, hown⟩, hb⟩
        have O3 := Lib.hid (AOwn.make hown)
        obtain ⟨D0, hD0⟩ : ∃ D0, v3.heap.size = D0 := ⟨_, rfl⟩
        have E3 : Hid (D0 ≤ v3.heap.size) := Lib.hid (by rw [hD0]; exact Nat.le_refl _)
        rw [hD0] at O3
        have H3 := Lib.hid (H2.out.later hb)
        have Q3 := Lib.hid ((hb.block _ (Array.getElem?_eq_some_iff.1 Q2.out).1).trans Q2.out)
        have HDG : Hid (w.heap.size + 1 ≤ D0) := Lib.hid (by rw [← hD0]; exact H3.out.lt)
        clear hD0
        clear hown hb
        refine hK.out _ _ ?_ (fun hHeld => ?_)
        · exact H3.out.cells
        clear hK K
        try simp only [Act.put, List.setIfInBounds_toArray, List.set_cons_zero, List.set_cons_succ, List.getElem_toArray, List.getElem_cons_zero, List.getElem_cons_succ]
        refine wpAnyH_ready (rs := [3, 4]) (by kernel_rfl) (by simp) ?_
        refine AllReadyH.cons rfl (fun K hK => ?_) (AllReadyH.cons rfl (fun K hK => ?_) (AllReadyH.nil))
        · go_simp
          refine (HMK.out _ (H3.out.here HSM.out)).mono ?_
          rintro e v4 ⟨⟨A4, rfl, C4, D4, VK4, VT4, hown⟩, hb⟩
          have R4 := Lib.hid hown
          have HBD : Hid (D0 ≤ v3.heap.size + 3) := Lib.hid (by have := E3.out; omega)
          have H4 := Lib.hid (H3.out.later hb)
          have Q4 := Lib.hid ((hb.block _ (Array.getElem?_eq_some_iff.1 Q3.out).1).trans Q3.out)
          have O4 := Lib.hid (O3.out.later hb)
          have E4 := Lib.hid (Nat.le_trans E3.out hb.size)
          clear hown hb
          refine hK.out _ _ ?_ (fun hHeld => ?_)
          · exact H4.out.cells
          clear hK K
          try simp only [Act.put, List.setIfInBounds_toArray, List.set_cons_zero, List.set_cons_succ, List.getElem_toArray, List.getElem_cons_zero, List.getElem_cons_succ]
          refine wpAnyH_ready (rs := [4]) (by kernel_rfl) (by simp) ?_
          refine AllReadyH.cons rfl (fun K hK => ?_) (AllReadyH.nil)
          go_simp
          have hb := below1 v4 (.cells #[.int .i64 0, .int .i64 0, .int .i64 0, .int .i64 0, .int .i64 0, .slice none 0 0, .slice none 0 0, .slice none 0 0, .slice none 0 0] 38)
          have H5 := Lib.hid (H4.out.later hb)
          have P5 := Lib.hid (heap_alloc_new v4 (.cells #[.int .i64 0, .int .i64 0, .int .i64 0, .int .i64 0, .int .i64 0, .slice none 0 0, .slice none 0 0, .slice none 0 0, .slice none 0 0] 38))
          have Q5 := Lib.hid ((hb.block _ (Array.getElem?_eq_some_iff.1 Q4.out).1).trans Q4.out)
          have O5 := Lib.hid (O4.out.later hb)
          have E5 := Lib.hid (Nat.le_trans E4.out hb.size)
          have R5 := Lib.hid (R4.out.later hb)
          refine hK.out _ _ ?_ (fun hHeld => ?_)
          · exact H5.out.cells
          clear hK K
          try simp only [Act.put, List.setIfInBounds_toArray, List.set_cons_zero, List.set_cons_succ, List.getElem_toArray, List.getElem_cons_zero, List.getElem_cons_succ]
          obtain ⟨ga, hga⟩ : ∃ g, v4.heap.size = g := ⟨_, rfl⟩
          have HGga : Hid (w.heap.size + 1 ≤ ga) := Lib.hid (by rw [← hga]; exact H4.out.lt)
          have HNE : Hid (ga ≠ gb) := Lib.hid (by have := (Array.getElem?_eq_some_iff.1 Q4.out).1; omega)
          obtain ⟨v5, hv5⟩ : ∃ W9, World.alloc v4 (.cells #[.int .i64 0, .int .i64 0, .int .i64 0, .int .i64 0, .int .i64 0, .slice none 0 0, .slice none 0 0, .slice none 0 0, .slice none 0 0] 38) = W9 := ⟨_, rfl⟩
          rw [hv5] at hHeld H5 P5 Q5 O5 E5 R5 ⊢
          rw [hga] at P5 ⊢
          clear hga hv5 hb
          obtain ⟨n0, n1, n2, n3, n4, n5, n6, n7, n8, nf⟩ := cells9 P5.out
          have PS := Lib.hid (storeI_blk (y0 := .int .i64 m.en) (y1 := .int .i64 m.tm) (y2 := .int .i64 m.tr) (y3 := .int .i64 m.bm) (y4 := .int .i64 m.br) (y5 := .slice A3.sa m.sats.length A3.sc) (y6 := .slice A3.ca m.cus.length A3.cc) (y7 := .slice A3.ka m.cost.length A3.kc) (y8 := .slice A3.ta m.time.length A3.tc) P5.out)
          have QS := Lib.hid ((storeI_other (y0 := .int .i64 m.en) (y1 := .int .i64 m.tm) (y2 := .int .i64 m.tr) (y3 := .int .i64 m.bm) (y4 := .int .i64 m.br) (y5 := .slice A3.sa m.sats.length A3.sc) (y6 := .slice A3.ca m.cus.length A3.cc) (y7 := .slice A3.ka m.cost.length A3.kc) (y8 := .slice A3.ta m.time.length A3.tc) (Ne.symm HNE.out)).trans Q5.out)
          have HS9 := Lib.hid (H5.out.mod (below_storeI (wr := v5) (y0 := .int .i64 m.en) (y1 := .int .i64 m.tm) (y2 := .int .i64 m.tr) (y3 := .int .i64 m.bm) (y4 := .int .i64 m.br) (y5 := .slice A3.sa m.sats.length A3.sc) (y6 := .slice A3.ca m.cus.length A3.cc) (y7 := .slice A3.ka m.cost.length A3.kc) (y8 := .slice A3.ta m.time.length A3.tc) HGga.out))
          have OS := Lib.hid (O5.out.storeI_ (y0 := .int .i64 m.en) (y1 := .int .i64 m.tm) (y2 := .int .i64 m.tr) (y3 := .int .i64 m.bm) (y4 := .int .i64 m.br) (y5 := .slice A3.sa m.sats.length A3.sc) (y6 := .slice A3.ca m.cus.length A3.cc) (y7 := .slice A3.ka m.cost.length A3.kc) (y8 := .slice A3.ta m.time.length A3.tc) P5.out)
          have RS := Lib.hid (R5.out.storeI_ (y0 := .int .i64 m.en) (y1 := .int .i64 m.tm) (y2 := .int .i64 m.tr) (y3 := .int .i64 m.bm) (y4 := .int .i64 m.br) (y5 := .slice A3.sa m.sats.length A3.sc) (y6 := .slice A3.ca m.cus.length A3.cc) (y7 := .slice A3.ka m.cost.length A3.kc) (y8 := .slice A3.ta m.time.length A3.tc) P5.out)
          refine wpAnyH_ready (rs := [6]) (by kernel_rfl) (by simp) ?_
          refine AllReadyH.cons rfl (fun K hK => ?_) (AllReadyH.nil)
          go_simp
          refine hK.out _ _ ?_ (fun hHeld => ?_)
          · exact HS9.out.cells
          clear hK K
          try simp only [Act.put, List.setIfInBounds_toArray, List.set_cons_zero, List.set_cons_succ, List.getElem_toArray, List.getElem_cons_zero, List.getElem_cons_succ]
          clear n0 n1 n2 n3 n4 n5 n6 n7 n8 nf
          obtain ⟨v9, hv9⟩ : ∃ v9, storeI v5 ga (.int .i64 m.en) (.int .i64 m.tm) (.int .i64 m.tr) (.int .i64 m.bm) (.int .i64 m.br) (.slice A3.sa m.sats.length A3.sc) (.slice A3.ca m.cus.length A3.cc) (.slice A3.ka m.cost.length A3.kc) (.slice A3.ta m.time.length A3.tc) = v9 := ⟨_, rfl⟩
          rw [hv9] at PS QS HS9 OS RS
          unfold storeI at hv9
          rw [hv9] at hHeld ⊢
          clear hv9
          obtain ⟨n0, n1, n2, n3, n4, n5, n6, n7, n8, nf⟩ := cells9 QS.out
          have QT := Lib.hid (storeI_blk (y0 := .int .i64 m.en) (y1 := .int .i64 m.tm) (y2 := .int .i64 m.tr) (y3 := .int .i64 m.bm) (y4 := .int .i64 m.br) (y5 := .slice A4.sa m.sats.length A4.sc) (y6 := .slice A4.ca m.cus.length A4.cc) (y7 := .slice A4.ka m.cost.length A4.kc) (y8 := .slice A4.ta m.time.length A4.tc) QS.out)
          have PT := Lib.hid ((storeI_other (y0 := .int .i64 m.en) (y1 := .int .i64 m.tm) (y2 := .int .i64 m.tr) (y3 := .int .i64 m.bm) (y4 := .int .i64 m.br) (y5 := .slice A4.sa m.sats.length A4.sc) (y6 := .slice A4.ca m.cus.length A4.cc) (y7 := .slice A4.ka m.cost.length A4.kc) (y8 := .slice A4.ta m.time.length A4.tc) HNE.out).trans PS.out)
          have HT9 := Lib.hid (HS9.out.mod (below_storeI (wr := v9) (y0 := .int .i64 m.en) (y1 := .int .i64 m.tm) (y2 := .int .i64 m.tr) (y3 := .int .i64 m.bm) (y4 := .int .i64 m.br) (y5 := .slice A4.sa m.sats.length A4.sc) (y6 := .slice A4.ca m.cus.length A4.cc) (y7 := .slice A4.ka m.cost.length A4.kc) (y8 := .slice A4.ta m.time.length A4.tc) HGgb.out))
          have OT := Lib.hid (OS.out.storeI_ (y0 := .int .i64 m.en) (y1 := .int .i64 m.tm) (y2 := .int .i64 m.tr) (y3 := .int .i64 m.bm) (y4 := .int .i64 m.br) (y5 := .slice A4.sa m.sats.length A4.sc) (y6 := .slice A4.ca m.cus.length A4.cc) (y7 := .slice A4.ka m.cost.length A4.kc) (y8 := .slice A4.ta m.time.length A4.tc) QS.out)
          have RT := Lib.hid (RS.out.storeI_ (y0 := .int .i64 m.en) (y1 := .int .i64 m.tm) (y2 := .int .i64 m.tr) (y3 := .int .i64 m.bm) (y4 := .int .i64 m.br) (y5 := .slice A4.sa m.sats.length A4.sc) (y6 := .slice A4.ca m.cus.length A4.cc) (y7 := .slice A4.ka m.cost.length A4.kc) (y8 := .slice A4.ta m.time.length A4.tc) QS.out)
          refine wpAnyH_ready (rs := [7]) (by kernel_rfl) (by simp) ?_
          refine AllReadyH.cons rfl (fun K hK => ?_) (AllReadyH.nil)
          go_simp
          refine hK.out _ _ ?_ (fun hHeld => ?_)
          · exact HT9.out.cells
          clear hK K
          try simp only [Act.put, List.setIfInBounds_toArray, List.set_cons_zero, List.set_cons_succ, List.getElem_toArray, List.getElem_cons_zero, List.getElem_cons_succ]
          refine wpAnyH_done (by kernel_rfl) ?_ _
          clear hHeld n0 n1 n2 n3 n4 n5 n6 n7 n8 nf
          go_wp2_with fail
          go_meet
          exact ⟨ga, gb, D0, A3, A4, _, C4, D4, VK4, VT4, _, _, rfl, rfl, ⟨HT9.out, PT.out, OT.out, HGga.out, HDG.out⟩, ⟨QT.out, RT.out, hn1, hn2.2, hn4.2⟩, HNE.out, HGgb.out, HBD.out⟩
        · go_simp
          have hb := below1 v3 (.cells #[.int .i64 0, .int .i64 0, .int .i64 0, .int .i64 0, .int .i64 0, .slice none 0 0, .slice none 0 0, .slice none 0 0, .slice none 0 0] 38)
          have H4 := Lib.hid (H3.out.later hb)
          have P4 := Lib.hid (heap_alloc_new v3 (.cells #[.int .i64 0, .int .i64 0, .int .i64 0, .int .i64 0, .int .i64 0, .slice none 0 0, .slice none 0 0, .slice none 0 0, .slice none 0 0] 38))
          have Q4 := Lib.hid ((hb.block _ (Array.getElem?_eq_some_iff.1 Q3.out).1).trans Q3.out)
          have O4 := Lib.hid (O3.out.later hb)
          have E4 := Lib.hid (Nat.le_trans E3.out hb.size)
          refine hK.out _ _ ?_ (fun hHeld => ?_)
          · exact H4.out.cells
          clear hK K
          try simp only [Act.put, List.setIfInBounds_toArray, List.set_cons_zero, List.set_cons_succ, List.getElem_toArray, List.getElem_cons_zero, List.getElem_cons_succ]
          obtain ⟨ga, hga⟩ : ∃ g, v3.heap.size = g := ⟨_, rfl⟩
          have HGga : Hid (w.heap.size + 1 ≤ ga) := Lib.hid (by rw [← hga]; exact H3.out.lt)
          have HNE : Hid (ga ≠ gb) := Lib.hid (by have := (Array.getElem?_eq_some_iff.1 Q3.out).1; omega)
          obtain ⟨v4, hv4⟩ : ∃ W9, World.alloc v3 (.cells #[.int .i64 0, .int .i64 0, .int .i64 0, .int .i64 0, .int .i64 0, .slice none 0 0, .slice none 0 0, .slice none 0 0, .slice none 0 0] 38) = W9 := ⟨_, rfl⟩
          rw [hv4] at hHeld H4 P4 Q4 O4 E4 ⊢
          rw [hga] at P4 ⊢
          clear hga hv4 hb
          refine wpAnyH_ready (rs := [3]) (by kernel_rfl) (by simp) ?_
          refine AllReadyH.cons rfl (fun K hK => ?_) (AllReadyH.nil)
          go_simp
          refine (HMK.out _ (H4.out.here HSM.out)).mono ?_
          rintro e v5 ⟨⟨A4, rfl, C4, D4, VK4, VT4, hown⟩, hb⟩
          have R5 := Lib.hid hown
          have HBD : Hid (D0 ≤ v4.heap.size + 3) := Lib.hid (by have := E4.out; omega)
          have H5 := Lib.hid (H4.out.later hb)
          have P5 := Lib.hid ((hb.block _ (Array.getElem?_eq_some_iff.1 P4.out).1).trans P4.out)
          have Q5 := Lib.hid ((hb.block _ (Array.getElem?_eq_some_iff.1 Q4.out).1).trans Q4.out)
          have O5 := Lib.hid (O4.out.later hb)
          have E5 := Lib.hid (Nat.le_trans E4.out hb.size)
          clear hown hb
          refine hK.out _ _ ?_ (fun hHeld => ?_)
          · exact H5.out.cells
          clear hK K
          try simp only [Act.put, List.setIfInBounds_toArray, List.set_cons_zero, List.set_cons_succ, List.getElem_toArray, List.getElem_cons_zero, List.getElem_cons_succ]
          obtain ⟨n0, n1, n2, n3, n4, n5, n6, n7, n8, nf⟩ := cells9 P5.out
          have PS := Lib.hid (storeI_blk (y0 := .int .i64 m.en) (y1 := .int .i64 m.tm) (y2 := .int .i64 m.tr) (y3 := .int .i64 m.bm) (y4 := .int .i64 m.br) (y5 := .slice A3.sa m.sats.length A3.sc) (y6 := .slice A3.ca m.cus.length A3.cc) (y7 := .slice A3.ka m.cost.length A3.kc) (y8 := .slice A3.ta m.time.length A3.tc) P5.out)
          have QS := Lib.hid ((storeI_other (y0 := .int .i64 m.en) (y1 := .int .i64 m.tm) (y2 := .int .i64 m.tr) (y3 := .int .i64 m.bm) (y4 := .int .i64 m.br) (y5 := .slice A3.sa m.sats.length A3.sc) (y6 := .slice A3.ca m.cus.length A3.cc) (y7 := .slice A3.ka m.cost.length A3.kc) (y8 := .slice A3.ta m.time.length A3.tc) (Ne.symm HNE.out)).trans Q5.out)
          have HS9 := Lib.hid (H5.out.mod (below_storeI (wr := v5) (y0 := .int .i64 m.en) (y1 := .int .i64 m.tm) (y2 := .int .i64 m.tr) (y3 := .int .i64 m.bm) (y4 := .int .i64 m.br) (y5 := .slice A3.sa m.sats.length A3.sc) (y6 := .slice A3.ca m.cus.length A3.cc) (y7 := .slice A3.ka m.cost.length A3.kc) (y8 := .slice A3.ta m.time.length A3.tc) HGga.out))
          have OS := Lib.hid (O5.out.storeI_ (y0 := .int .i64 m.en) (y1 := .int .i64 m.tm) (y2 := .int .i64 m.tr) (y3 := .int .i64 m.bm) (y4 := .int .i64 m.br) (y5 := .slice A3.sa m.sats.length A3.sc) (y6 := .slice A3.ca m.cus.length A3.cc) (y7 := .slice A3.ka m.cost.length A3.kc) (y8 := .slice A3.ta m.time.length A3.tc) P5.out)
          have RS := Lib.hid (R5.out.storeI_ (y0 := .int .i64 m.en) (y1 := .int .i64 m.tm) (y2 := .int .i64 m.tr) (y3 := .int .i64 m.bm) (y4 := .int .i64 m.br) (y5 := .slice A3.sa m.sats.length A3.sc) (y6 := .slice A3.ca m.cus.length A3.cc) (y7 := .slice A3.ka m.cost.length A3.kc) (y8 := .slice A3.ta m.time.length A3.tc) P5.out)
          refine wpAnyH_ready (rs := [6]) (by kernel_rfl) (by simp) ?_
          refine AllReadyH.cons rfl (fun K hK => ?_) (AllReadyH.nil)
          go_simp
          refine hK.out _ _ ?_ (fun hHeld => ?_)
          · exact HS9.out.cells
          clear hK K
          try simp only [Act.put, List.setIfInBounds_toArray, List.set_cons_zero, List.set_cons_succ, List.getElem_toArray, List.getElem_cons_zero, List.getElem_cons_succ]
          clear n0 n1 n2 n3 n4 n5 n6 n7 n8 nf
          obtain ⟨v9, hv9⟩ : ∃ v9, storeI v5 ga (.int .i64 m.en) (.int .i64 m.tm) (.int .i64 m.tr) (.int .i64 m.bm) (.int .i64 m.br) (.slice A3.sa m.sats.length A3.sc) (.slice A3.ca m.cus.length A3.cc) (.slice A3.ka m.cost.length A3.kc) (.slice A3.ta m.time.length A3.tc) = v9 := ⟨_, rfl⟩
          rw [hv9] at PS QS HS9 OS RS
          unfold storeI at hv9
          rw [hv9] at hHeld ⊢
          clear hv9
          obtain ⟨n0, n1, n2, n3, n4, n5, n6, n7, n8, nf⟩ := cells9 QS.out
          have QT := Lib.hid (storeI_blk (y0 := .int .i64 m.en) (y1 := .int .i64 m.tm) (y2 := .int .i64 m.tr) (y3 := .int .i64 m.bm) (y4 := .int .i64 m.br) (y5 := .slice A4.sa m.sats.length A4.sc) (y6 := .slice A4.ca m.cus.length A4.cc) (y7 := .slice A4.ka m.cost.length A4.kc) (y8 := .slice A4.ta m.time.length A4.tc) QS.out)
          have PT := Lib.hid ((storeI_other (y0 := .int .i64 m.en) (y1 := .int .i64 m.tm) (y2 := .int .i64 m.tr) (y3 := .int .i64 m.bm) (y4 := .int .i64 m.br) (y5 := .slice A4.sa m.sats.length A4.sc) (y6 := .slice A4.ca m.cus.length A4.cc) (y7 := .slice A4.ka m.cost.length A4.kc) (y8 := .slice A4.ta m.time.length A4.tc) HNE.out).trans PS.out)
          have HT9 := Lib.hid (HS9.out.mod (below_storeI (wr := v9) (y0 := .int .i64 m.en) (y1 := .int .i64 m.tm) (y2 := .int .i64 m.tr) (y3 := .int .i64 m.bm) (y4 := .int .i64 m.br) (y5 := .slice A4.sa m.sats.length A4.sc) (y6 := .slice A4.ca m.cus.length A4.cc) (y7 := .slice A4.ka m.cost.length A4.kc) (y8 := .slice A4.ta m.time.length A4.tc) HGgb.out))
          have OT := Lib.hid (OS.out.storeI_ (y0 := .int .i64 m.en) (y1 := .int .i64 m.tm) (y2 := .int .i64 m.tr) (y3 := .int .i64 m.bm) (y4 := .int .i64 m.br) (y5 := .slice A4.sa m.sats.length A4.sc) (y6 := .slice A4.ca m.cus.length A4.cc) (y7 := .slice A4.ka m.cost.length A4.kc) (y8 := .slice A4.ta m.time.length A4.tc) QS.out)
          have RT := Lib.hid (RS.out.storeI_ (y0 := .int .i64 m.en) (y1 := .int .i64 m.tm) (y2 := .int .i64 m.tr) (y3 := .int .i64 m.bm) (y4 := .int .i64 m.br) (y5 := .slice A4.sa m.sats.length A4.sc) (y6 := .slice A4.ca m.cus.length A4.cc) (y7 := .slice A4.ka m.cost.length A4.kc) (y8 := .slice A4.ta m.time.length A4.tc) QS.out)
          refine wpAnyH_ready (rs := [7]) (by kernel_rfl) (by simp) ?_
          refine AllReadyH.cons rfl (fun K hK => ?_) (AllReadyH.nil)
          go_simp
          refine hK.out _ _ ?_ (fun hHeld => ?_)
          · exact HT9.out.cells
          clear hK K
          try simp only [Act.put, List.setIfInBounds_toArray, List.set_cons_zero, List.set_cons_succ, List.getElem_toArray, List.getElem_cons_zero, List.getElem_cons_succ]
          refine wpAnyH_done (by kernel_rfl) ?_ _
          clear hHeld n0 n1 n2 n3 n4 n5 n6 n7 n8 nf
          go_wp2_with fail
          go_meet
          exact ⟨ga, gb, D0, A3, A4, _, C4, D4, VK4, VT4, _, _, rfl, rfl, ⟨HT9.out, PT.out, OT.out, HGga.out, HDG.out⟩, ⟨QT.out, RT.out, hn1, hn2.2, hn4.2⟩, HNE.out, HGgb.out, HBD.out⟩
      · go_simp
        have hb := below1 v2 (.cells #[.int .i64 0, .int .i64 0, .int .i64 0, .int .i64 0, .int .i64 0, .slice none 0 0, .slice none 0 0, .slice none 0 0, .slice none 0 0] 38)
        have H3 := Lib.hid (H2.out.later hb)
        have P3 := Lib.hid (heap_alloc_new v2 (.cells #[.int .i64 0, .int .i64 0, .int .i64 0, .int .i64 0, .int .i64 0, .slice none 0 0, .slice none 0 0, .slice none 0 0, .slice none 0 0] 38))
        have Q3 := Lib.hid ((hb.block _ (Array.getElem?_eq_some_iff.1 Q2.out).1).trans Q2.out)
        refine hK.out _ _ ?_ (fun hHeld => ?_)
        · exact H3.out.cells
        clear hK K
        try simp only [Act.put, List.setIfInBounds_toArray, List.set_cons_zero, List.set_cons_succ, List.getElem_toArray, List.getElem_cons_zero, List.getElem_cons_succ]
        obtain ⟨ga, hga⟩ : ∃ g, v2.heap.size = g := ⟨_, rfl⟩
        have HGga : Hid (w.heap.size + 1 ≤ ga) := Lib.hid (by rw [← hga]; exact H2.out.lt)
        have HNE : Hid (ga ≠ gb) := Lib.hid (by have := (Array.getElem?_eq_some_iff.1 Q2.out).1; omega)
        obtain ⟨v3, hv3⟩ : ∃ W9, World.alloc v2 (.cells #[.int .i64 0, .int .i64 0, .int .i64 0, .int .i64 0, .int .i64 0, .slice none 0 0, .slice none 0 0, .slice none 0 0, .slice none 0 0] 38) = W9 := ⟨_, rfl⟩
        rw [hv3] at hHeld H3 P3 Q3 ⊢
        rw [hga] at P3 ⊢
        clear hga hv3 hb
        refine wpAnyH_ready (rs := [1]) (by kernel_rfl) (by simp) ?_
        refine AllReadyH.cons rfl (fun K hK => ?_) (AllReadyH.nil)
        go_simp
        refine (HMK.out _ (H3.out.here HSM.out)).mono ?_
        rintro e v4 ⟨⟨A3, rfl, C3, D3, VK3, VT3, hown⟩, hb⟩
        have O4 := Lib.hid (AOwn.make hown)
        obtain ⟨D0, hD0⟩ : ∃ D0, v4.heap.size = D0 := ⟨_, rfl⟩
        have E4 : Hid (D0 ≤ v4.heap.size) := Lib.hid (by rw [hD0]; exact Nat.le_refl _)
        rw [hD0] at O4
        have H4 := Lib.hid (H3.out.later hb)
        have P4 := Lib.hid ((hb.block _ (Array.getElem?_eq_some_iff.1 P3.out).1).trans P3.out)
        have Q4 := Lib.hid ((hb.block _ (Array.getElem?_eq_some_iff.1 Q3.out).1).trans Q3.out)
        have HDG : Hid (w.heap.size + 1 ≤ D0) := Lib.hid (by rw [← hD0]; exact H4.out.lt)
        clear hD0
        clear hown hb
        refine hK.out _ _ ?_ (fun hHeld => ?_)
        · exact H4.out.cells
        clear hK K
        try simp only [Act.put, List.setIfInBounds_toArray, List.set_cons_zero, List.set_cons_succ, List.getElem_toArray, List.getElem_cons_zero, List.getElem_cons_succ]
        refine wpAnyH_ready (rs := [3]) (by kernel_rfl) (by simp) ?_
        refine AllReadyH.cons rfl (fun K hK => ?_) (AllReadyH.nil)
        go_simp
        refine (HMK.out _ (H4.out.here HSM.out)).mono ?_
        rintro e v5 ⟨⟨A4, rfl, C4, D4, VK4, VT4, hown⟩, hb⟩
        have R5 := Lib.hid hown
        have HBD : Hid (D0 ≤ v4.heap.size + 3) := Lib.hid (by have := E4.out; omega)
        have H5 := Lib.hid (H4.out.later hb)
        have P5 := Lib.hid ((hb.block _ (Array.getElem?_eq_some_iff.1 P4.out).1).trans P4.out)
        have Q5 := Lib.hid ((hb.block _ (Array.getElem?_eq_some_iff.1 Q4.out).1).trans Q4.out)
        have O5 := Lib.hid (O4.out.later hb)
        have E5 := Lib.hid (Nat.le_trans E4.out hb.size)
        clear hown hb
        refine hK.out _ _ ?_ (fun hHeld => ?_)
        · exact H5.out.cells
        clear hK K
        try simp only [Act.put, List.setIfInBounds_toArray, List.set_cons_zero, List.set_cons_succ, List.getElem_toArray, List.getElem_cons_zero, List.getElem_cons_succ]
        obtain ⟨n0, n1, n2, n3, n4, n5, n6, n7, n8, nf⟩ := cells9 P5.out
        have PS := Lib.hid (storeI_blk (y0 := .int .i64 m.en) (y1 := .int .i64 m.tm) (y2 := .int .i64 m.tr) (y3 := .int .i64 m.bm) (y4 := .int .i64 m.br) (y5 := .slice A3.sa m.sats.length A3.sc) (y6 := .slice A3.ca m.cus.length A3.cc) (y7 := .slice A3.ka m.cost.length A3.kc) (y8 := .slice A3.ta m.time.length A3.tc) P5.out)
        have QS := Lib.hid ((storeI_other (y0 := .int .i64 m.en) (y1 := .int .i64 m.tm) (y2 := .int .i64 m.tr) (y3 := .int .i64 m.bm) (y4 := .int .i64 m.br) (y5 := .slice A3.sa m.sats.length A3.sc) (y6 := .slice A3.ca m.cus.length A3.cc) (y7 := .slice A3.ka m.cost.length A3.kc) (y8 := .slice A3.ta m.time.length A3.tc) (Ne.symm HNE.out)).trans Q5.out)
        have HS9 := Lib.hid (H5.out.mod (below_storeI (wr := v5) (y0 := .int .i64 m.en) (y1 := .int .i64 m.tm) (y2 := .int .i64 m.tr) (y3 := .int .i64 m.bm) (y4 := .int .i64 m.br) (y5 := .slice A3.sa m.sats.length A3.sc) (y6 := .slice A3.ca m.cus.length A3.cc) (y7 := .slice A3.ka m.cost.length A3.kc) (y8 := .slice A3.ta m.time.length A3.tc) HGga.out))
        have OS := Lib.hid (O5.out.storeI_ (y0 := .int .i64 m.en) (y1 := .int .i64 m.tm) (y2 := .int .i64 m.tr) (y3 := .int .i64 m.bm) (y4 := .int .i64 m.br) (y5 := .slice A3.sa m.sats.length A3.sc) (y6 := .slice A3.ca m.cus.length A3.cc) (y7 := .slice A3.ka m.cost.length A3.kc) (y8 := .slice A3.ta m.time.length A3.tc) P5.out)
        have RS := Lib.hid (R5.out.storeI_ (y0 := .int .i64 m.en) (y1 := .int .i64 m.tm) (y2 := .int .i64 m.tr) (y3 := .int .i64 m.bm) (y4 := .int .i64 m.br) (y5 := .slice A3.sa m.sats.length A3.sc) (y6 := .slice A3.ca m.cus.length A3.cc) (y7 := .slice A3.ka m.cost.length A3.kc) (y8 := .slice A3.ta m.time.length A3.tc) P5.out)
        refine wpAnyH_ready (rs := [6]) (by kernel_rfl) (by simp) ?_
        refine AllReadyH.cons rfl (fun K hK => ?_) (AllReadyH.nil)
        go_simp
        refine hK.out _ _ ?_ (fun hHeld => ?_)
        · exact HS9.out.cells
        clear hK K
        try simp only [Act.put, List.setIfInBounds_toArray, List.set_cons_zero, List.set_cons_succ, List.getElem_toArray, List.getElem_cons_zero, List.getElem_cons_succ]
        clear n0 n1 n2 n3 n4 n5 n6 n7 n8 nf
        obtain ⟨v9, hv9⟩ : ∃ v9, storeI v5 ga (.int .i64 m.en) (.int .i64 m.tm) (.int .i64 m.tr) (.int .i64 m.bm) (.int .i64 m.br) (.slice A3.sa m.sats.length A3.sc) (.slice A3.ca m.cus.length A3.cc) (.slice A3.ka m.cost.length A3.kc) (.slice A3.ta m.time.length A3.tc) = v9 := ⟨_, rfl⟩
        rw [hv9] at PS QS HS9 OS RS
        unfold storeI at hv9
        rw [hv9] at hHeld ⊢
        clear hv9
        obtain ⟨n0, n1, n2, n3, n4, n5, n6, n7, n8, nf⟩ := cells9 QS.out
        have QT := Lib.hid (storeI_blk (y0 := .int .i64 m.en) (y1 := .int .i64 m.tm) (y2 := .int .i64 m.tr) (y3 := .int .i64 m.bm) (y4 := .int .i64 m.br) (y5 := .slice A4.sa m.sats.length A4.sc) (y6 := .slice A4.ca m.cus.length A4.cc) (y7 := .slice A4.ka m.cost.length A4.kc) (y8 := .slice A4.ta m.time.length A4.tc) QS.out)
        have PT := Lib.hid ((storeI_other (y0 := .int .i64 m.en) (y1 := .int .i64 m.tm) (y2 := .int .i64 m.tr) (y3 := .int .i64 m.bm) (y4 := .int .i64 m.br) (y5 := .slice A4.sa m.sats.length A4.sc) (y6 := .slice A4.ca m.cus.length A4.cc) (y7 := .slice A4.ka m.cost.length A4.kc) (y8 := .slice A4.ta m.time.length A4.tc) HNE.out).trans PS.out)
        have HT9 := Lib.hid (HS9.out.mod (below_storeI (wr := v9) (y0 := .int .i64 m.en) (y1 := .int .i64 m.tm) (y2 := .int .i64 m.tr) (y3 := .int .i64 m.bm) (y4 := .int .i64 m.br) (y5 := .slice A4.sa m.sats.length A4.sc) (y6 := .slice A4.ca m.cus.length A4.cc) (y7 := .slice A4.ka m.cost.length A4.kc) (y8 := .slice A4.ta m.time.length A4.tc) HGgb.out))
        have OT := Lib.hid (OS.out.storeI_ (y0 := .int .i64 m.en) (y1 := .int .i64 m.tm) (y2 := .int .i64 m.tr) (y3 := .int .i64 m.bm) (y4 := .int .i64 m.br) (y5 := .slice A4.sa m.sats.length A4.sc) (y6 := .slice A4.ca m.cus.length A4.cc) (y7 := .slice A4.ka m.cost.length A4.kc) (y8 := .slice A4.ta m.time.length A4.tc) QS.out)
        have RT := Lib.hid (RS.out.storeI_ (y0 := .int .i64 m.en) (y1 := .int .i64 m.tm) (y2 := .int .i64 m.tr) (y3 := .int .i64 m.bm) (y4 := .int .i64 m.br) (y5 := .slice A4.sa m.sats.length A4.sc) (y6 := .slice A4.ca m.cus.length A4.cc) (y7 := .slice A4.ka m.cost.length A4.kc) (y8 := .slice A4.ta m.time.length A4.tc) QS.out)
        refine wpAnyH_ready (rs := [7]) (by kernel_rfl) (by simp) ?_
        refine AllReadyH.cons rfl (fun K hK => ?_) (AllReadyH.nil)
        go_simp
        refine hK.out _ _ ?_ (fun hHeld => ?_)
        · exact HT9.out.cells
        clear hK K
        try simp only [Act.put, List.setIfInBounds_toArray, List.set_cons_zero, List.set_cons_succ, List.getElem_toArray, List.getElem_cons_zero, List.getElem_cons_succ]
        refine wpAnyH_done (by kernel_rfl) ?_ _
        clear hHeld n0 n1 n2 n3 n4 n5 n6 n7 n8 nf
        go_wp2_with fail
        go_meet
        exact ⟨ga, gb, D0, A3, A4, _, C4, D4, VK4, VT4, _, _, rfl, rfl, ⟨HT9.out, PT.out, OT.out, HGga.out, HDG.out⟩, ⟨QT.out, RT.out, hn1, hn2.2, hn4.2⟩, HNE.out, HGgb.out, HBD.out⟩
  case rest =>
    obtain ⟨ga, gb, D0, A3, A4, B, C, D, VK, VT, LK, LT, hp, hq, hAW, hFr, hne, hgb, hDB⟩ := hcut
    subst hp hq
    have HAW := Lib.hid hAW
    have HF := Lib.hid hFr
    have HNE := Lib.hid hne
    have HGB := Lib.hid hgb
    have HDB := Lib.hid hDB
    clear hAW hFr hne hgb hDB
    try clear HS1
    go_step
    go_step
    go_cut [] from 17 to 68 (fun wx => (∃ A5 m5, Fin wx gb A5 m5 ∧ May m5) ∧ BW w wx D0 ga A s A3 m)
    case first =>
      rcases (show what % 4 = 0 ∨ what % 4 = 1 ∨ what % 4 = 2 ∨ what % 4 = 3 by omega) with hq | hq | hq | hq
      · have hq2 : what.tmod 4 = 0 := by rw [Int.tmod_eq_emod_of_nonneg hw1.1]; exact hq
        obtain ⟨k0, k1, k2, k3, k4, k5, k6, k7, k8⟩ := HF.out.fin.cells
        have hfz := HF.out.frozen 0
        have hen := HLOW.out.en
        go_wp2_with fail
        go_meet
        exact ⟨⟨_, _, HF.out.put_en (m.en + n), HM.out.put_en (by omega)⟩, HAW.out.box HF.out.box HGB.out HNE.out 0 (.int .i64 (m.en + n))⟩
      · have hq2 : what.tmod 4 = 1 := by rw [Int.tmod_eq_emod_of_nonneg hw1.1]; exact hq
        obtain ⟨k0, k1, k2, k3, k4, k5, k6, k7, k8⟩ := HF.out.fin.cells
        obtain ⟨c, hc, hcN⟩ := mod_natA at_ m.cus.length (by omega) ha1.1
        have hc1 := hc.1
        have hc2 := hc.2
        clear hc
        obtain ⟨p, hp⟩ : ∃ p, m.cus[c]? = some p := ⟨_, List.getElem?_eq_getElem hcN⟩
        have hst := HLOW.out.stay p (List.mem_of_getElem? hp)
        have HMZ := Lib.hid (HM.out.put_stay hp (z := p.2.2.2 + n) (by omega))
        obtain ⟨g, hga, hc0, hf0, hfin⟩ := HF.out.put_cus3 hp (p.2.2.2 + n)
        have hge := HF.out.cus_geA hga
        have hty : ga ≠ g := by
          have hcb := HF.out.own.cus
          rw [hga] at hcb
          obtain ⟨cur, hcur⟩ := own_block hcb (g := g) rfl
          exact blk_types HAW.out.a hcur (by decide)
        have HFIN := Lib.hid hfin
        have HAWN := Lib.hid (HAW.out.set_ (Nat.le_trans HDB.out hge) hty (c * 4 + 3) (.int .i64 (p.2.2.2 + n)))
        rw [hga] at k6
        clear hfin hp hga hty
        go_upto_region 8 with fail
        go_region
        all_goals
          go_wp2_with fail
          go_meet
          exact ⟨⟨_, _, HFIN.out.later (Below.refl _ _).drew, HMZ.out⟩, HAWN.out.later (Below.refl _ _).drew⟩
      · have hq2 : what.tmod 4 = 2 := by rw [Int.tmod_eq_emod_of_nonneg hw1.1]; exact hq
        obtain ⟨k0, k1, k2, k3, k4, k5, k6, k7, k8⟩ := HF.out.fin.cells
        have hkl := HF.out.klen.2
        obtain ⟨g, hga, hc0, hc1, hf1⟩ := HF.out.own.time.cell_ (i := 0) (k := 1) (by omega) (by omega)
        have hlt := HLOW.out.lt HF.out.own.tk (i := 0) (k := 1) (by omega) (by omega)
        rw [hga] at k8
        have hpos : 0 < m.time.length := by omega
        clear hkl hga
        go_wp2_with fail
        go_meet
        exact ⟨⟨_, _, HF.out.put_time (i := 0) (k := 1) (by omega) (by omega) (LT 0 1 + n), HM.out.put_time HN6.out HF.out.own.tk (by omega)⟩, HAW.out.set_ (Nat.le_trans HDB.out (HF.out.vt_geA (i := 0) (by omega))) (by
              obtain ⟨cur, hcur⟩ := rowIs_block (HF.out.own.time.row 0 (by omega)).1
              exact blk_types HAW.out.a hcur (by decide)) 1 (.int .i64 (LT 0 1 + n))⟩
      · have hq2 : what.tmod 4 = 3 := by rw [Int.tmod_eq_emod_of_nonneg hw1.1]; exact hq
        obtain ⟨k0, k1, k2, k3, k4, k5, k6, k7, k8⟩ := HF.out.fin.cells
        have hfz := HF.out.frozen 2
        have hfy := (HF.out.tr_ m.br).frozen 4
        go_wp2_with fail
        go_meet
        exact ⟨⟨_, _, (HF.out.tr_ m.br).put_br m.tr, HM.out.swap⟩, (HAW.out.box HF.out.box HGB.out HNE.out 2 (.int .i64 m.br)).box (HF.out.tr_ m.br).box HGB.out HNE.out 4 (.int .i64 m.tr)⟩
    case rest =>
      obtain ⟨⟨A5x, m5x, hfx, hmx⟩, hax⟩ := hcut
      clear HF HAW
      go_wp2_with fail
      obtain ⟨W9, hW9⟩ : ∃ W9, wc = W9 := ⟨_, rfl⟩
      have hFin := hfx
      have hMay := hmx
      have hAW := hax
      rw [hW9] at hFin hAW ⊢
      obtain ⟨A5, m5, hFin, hMay⟩ : ∃ A5 m5, Fin W9 gb A5 m5 ∧ May m5 := ⟨_, _, hFin, hMay⟩
      clear hW9
      have HD0 := Lib.hid (hFin.later (Below.refl _ W9).drew)
      have HA0 := Lib.hid (hAW.later (Below.refl _ W9).drew)
      have HC0 := Lib.hid (cells18 HA0.out HD0.out)
      have heq := apart_eq HM.out hMay
      obtain ⟨tx, htx⟩ : ∃ tx : ByteArray, tx = ⟨(showB m).toArray⟩ := ⟨_, rfl⟩
      obtain ⟨ty, hty⟩ : ∃ ty : ByteArray, ty = ⟨(showB m5).toArray⟩ := ⟨_, rfl⟩
      have HTX : Hid (∀ (W0 : World), Tab W0 → IsIns W0.heap.size W0 A3 m → Calls Tryd.prog 12 #[.agg (insC A3 m)] W0 fun e w' => e = .returned (.string tx) ∧ Below W0.heap.size W0 w') := Lib.hid (fun W0 h1 h2 => by rw [htx]; exact HH.out.text A3 m W0 h1 h2 HM.out)
      have HTY : Hid (∀ (W0 : World), Tab W0 → IsIns W0.heap.size W0 A5 m5 → Calls Tryd.prog 12 #[.agg (insC A5 m5)] W0 fun e w' => e = .returned (.string ty) ∧ Below W0.heap.size W0 w') := Lib.hid (fun W0 h1 h2 => by rw [hty]; exact HH.out.text A5 m5 W0 h1 h2 hMay)
      rw [← htx, ← hty] at heq
      have HEQ := Lib.hid heq
      clear hFin hAW hMay htx hty heq
      try clear HF HAW HFIN HAWN
      unfold insC at *
      obtain ⟨⟨a0, a1, a2, a3, a4, a5, a6, a7, a8⟩, ⟨b0, b1, b2, b3, b4, b5, b6, b7, b8⟩⟩ := HC0.out
      have MA1 : True := trivial
      go_region_held3 (fun W => (W.cell? ⟨ga, 0, none⟩ = some (.int .i64 m.en) ∧ W.cell? ⟨ga, 1, none⟩ = some (.int .i64 m.tm) ∧ W.cell? ⟨ga, 2, none⟩ = some (.int .i64 m.tr) ∧ W.cell? ⟨ga, 3, none⟩ = some (.int .i64 m.bm) ∧ W.cell? ⟨ga, 4, none⟩ = some (.int .i64 m.br) ∧ W.cell? ⟨ga, 5, none⟩ = some (.slice A3.sa m.sats.length A3.sc) ∧ W.cell? ⟨ga, 6, none⟩ = some (.slice A3.ca m.cus.length A3.cc) ∧ W.cell? ⟨ga, 7, none⟩ = some (.slice A3.ka m.cost.length A3.kc) ∧ W.cell? ⟨ga, 8, none⟩ = some (.slice A3.ta m.time.length A3.tc)) ∧ (W.cell? ⟨gb, 0, none⟩ = some (.int .i64 m5.en) ∧ W.cell? ⟨gb, 1, none⟩ = some (.int .i64 m5.tm) ∧ W.cell? ⟨gb, 2, none⟩ = some (.int .i64 m5.tr) ∧ W.cell? ⟨gb, 3, none⟩ = some (.int .i64 m5.bm) ∧ W.cell? ⟨gb, 4, none⟩ = some (.int .i64 m5.br) ∧ W.cell? ⟨gb, 5, none⟩ = some (.slice A5.sa m5.sats.length A5.sc) ∧ W.cell? ⟨gb, 6, none⟩ = some (.slice A5.ca m5.cus.length A5.cc) ∧ W.cell? ⟨gb, 7, none⟩ = some (.slice A5.ka m5.cost.length A5.kc) ∧ W.cell? ⟨gb, 8, none⟩ = some (.slice A5.ta m5.time.length A5.tc)))
        (first | assumption | exact HC0.out | exact HC1.out | exact HC2.out | exact HC3.out)
        (first
          | (go_at_call 12; clear MA1; refine (HTX.out _ (HT.out.later HA0.out.sb.below) HA0.out.ao.is_).mono ?_; rintro e u1 ⟨rfl, hb⟩; have HA1 := Lib.hid (HA0.out.later hb); have HD1 := Lib.hid (HD0.out.later hb); have HC1 := Lib.hid (cells18 HA1.out HD1.out); clear hb)
          | (go_at_call 12; refine (HTY.out _ (HT.out.later HA1.out.sb.below) HD1.out.is_).mono ?_; rintro e u2 ⟨rfl, hb⟩; have HA2 := Lib.hid (HA1.out.later hb); have HD2 := Lib.hid (HD1.out.later hb); have HC2 := Lib.hid (cells18 HA2.out HD2.out); clear hb)
          | (go_at_call 17; refine (lawSame_any A3 A5 m m5 _ HA2.out.ao.is_ HD2.out.is_ HLM.out).mono ?_; rintro e u3 ⟨rfl, hb⟩; have HA3 := Lib.hid (HA2.out.later hb); have HD3 := Lib.hid (HD2.out.later hb); have HC3 := Lib.hid (cells18 HA3.out HD3.out); clear hb))
      all_goals
        go_wp2_with fail
        go_ret
        exact ⟨congrArg (fun b => Ending.returned (Value.bool b)) HEQ.out, HA3.out.sb.below⟩
end Go.Proofs.YtnnddmojcaicbaaDoor
