/- The walk of the law on Same (of package inst). -/
import Derived.Test.YtkapknfcepcijaaISamesT
import Derived.Test.YtkapknfcepcijaaISamI
import Derived.Deep.RegionHeld3
import Derived.Deep.RegionWith
import Derived.Deep.CutRange
namespace Go.Proofs.Ytkapknfcepcijaa
open Go.RowKit

variable {A1 A2 : InA} {x y : Ins} {A : SmA} {s : Sm}
theorem cells36 {w W : World} {D0 ga gb : Nat} {A3 A5 : InA} {m m5 : Ins} (h : AW w W D0 ga A1 x A2 y A s A3 m) (h2 : Fin W gb A5 m5) : (W.cell? ⟨w.heap.size, 0, none⟩ = some (.int .i64 x.en) ∧ W.cell? ⟨w.heap.size, 1, none⟩ = some (.int .i64 x.tm) ∧ W.cell? ⟨w.heap.size, 2, none⟩ = some (.int .i64 x.tr) ∧ W.cell? ⟨w.heap.size, 3, none⟩ = some (.int .i64 x.bm) ∧ W.cell? ⟨w.heap.size, 4, none⟩ = some (.int .i64 x.br) ∧ W.cell? ⟨w.heap.size, 5, none⟩ = some (.slice A1.sa x.sats.length A1.sc) ∧ W.cell? ⟨w.heap.size, 6, none⟩ = some (.slice A1.ca x.cus.length A1.cc) ∧ W.cell? ⟨w.heap.size, 7, none⟩ = some (.slice A1.ka x.cost.length A1.kc) ∧ W.cell? ⟨w.heap.size, 8, none⟩ = some (.slice A1.ta x.time.length A1.tc)) ∧ (W.cell? ⟨w.heap.size + 1, 0, none⟩ = some (.int .i64 y.en) ∧ W.cell? ⟨w.heap.size + 1, 1, none⟩ = some (.int .i64 y.tm) ∧ W.cell? ⟨w.heap.size + 1, 2, none⟩ = some (.int .i64 y.tr) ∧ W.cell? ⟨w.heap.size + 1, 3, none⟩ = some (.int .i64 y.bm) ∧ W.cell? ⟨w.heap.size + 1, 4, none⟩ = some (.int .i64 y.br) ∧ W.cell? ⟨w.heap.size + 1, 5, none⟩ = some (.slice A2.sa y.sats.length A2.sc) ∧ W.cell? ⟨w.heap.size + 1, 6, none⟩ = some (.slice A2.ca y.cus.length A2.cc) ∧ W.cell? ⟨w.heap.size + 1, 7, none⟩ = some (.slice A2.ka y.cost.length A2.kc) ∧ W.cell? ⟨w.heap.size + 1, 8, none⟩ = some (.slice A2.ta y.time.length A2.tc)) ∧ (W.cell? ⟨ga, 0, none⟩ = some (.int .i64 m.en) ∧ W.cell? ⟨ga, 1, none⟩ = some (.int .i64 m.tm) ∧ W.cell? ⟨ga, 2, none⟩ = some (.int .i64 m.tr) ∧ W.cell? ⟨ga, 3, none⟩ = some (.int .i64 m.bm) ∧ W.cell? ⟨ga, 4, none⟩ = some (.int .i64 m.br) ∧ W.cell? ⟨ga, 5, none⟩ = some (.slice A3.sa m.sats.length A3.sc) ∧ W.cell? ⟨ga, 6, none⟩ = some (.slice A3.ca m.cus.length A3.cc) ∧ W.cell? ⟨ga, 7, none⟩ = some (.slice A3.ka m.cost.length A3.kc) ∧ W.cell? ⟨ga, 8, none⟩ = some (.slice A3.ta m.time.length A3.tc)) ∧ (W.cell? ⟨gb, 0, none⟩ = some (.int .i64 m5.en) ∧ W.cell? ⟨gb, 1, none⟩ = some (.int .i64 m5.tm) ∧ W.cell? ⟨gb, 2, none⟩ = some (.int .i64 m5.tr) ∧ W.cell? ⟨gb, 3, none⟩ = some (.int .i64 m5.bm) ∧ W.cell? ⟨gb, 4, none⟩ = some (.int .i64 m5.br) ∧ W.cell? ⟨gb, 5, none⟩ = some (.slice A5.sa m5.sats.length A5.sc) ∧ W.cell? ⟨gb, 6, none⟩ = some (.slice A5.ca m5.cus.length A5.cc) ∧ W.cell? ⟨gb, 7, none⟩ = some (.slice A5.ka m5.cost.length A5.kc) ∧ W.cell? ⟨gb, 8, none⟩ = some (.slice A5.ta m5.time.length A5.tc)) :=
  ⟨h.three.two.one.cells, h.three.two.two.cells, by simp [World.cell?, h.a], h2.cells⟩
theorem Fresh.vt_geS {wr : World} {gx B N C D i : Nat} {A : InA} {x : Ins} {VK VT : Nat → Nat} {LK LT : Nat → Nat → Int} (h : Fresh wr gx B A x N C D VK VT LK LT) (hi : i < N) : B ≤ VT i := Nat.le_trans h.own.bc (Nat.le_trans h.own.cd (h.own.time.row i hi).2)
theorem Fresh.vk_geS {wr : World} {gx B N C D i : Nat} {A : InA} {x : Ins} {VK VT : Nat → Nat} {LK LT : Nat → Nat → Int} (h : Fresh wr gx B A x N C D VK VT LK LT) (hi : i < N) : B ≤ VK i := Nat.le_trans h.own.bc (h.own.cost.row i hi).2
theorem Fresh.cus_geS {wr : World} {gx B N C D g : Nat} {A : InA} {x : Ins} {VK VT : Nat → Nat} {LK LT : Nat → Nat → Int} (h : Fresh wr gx B A x N C D VK VT LK LT) (e : A.ca = some ⟨g, 0, none⟩) : B ≤ g := by
  have hs := h.own.cus
  rw [e] at hs
  exact (World.ownsRow.lt hs g rfl).1
theorem Fresh.timeS {wr : World} {gx B N C D g : Nat} {A : InA} {x : Ins} {VK VT : Nat → Nat} {LK LT : Nat → Nat → Int} (h : Fresh wr gx B A x N C D VK VT LK LT) (hN : 0 < N) (hga : A.ta = some ⟨g, 0, none⟩) : wr.cell? ⟨gx, 0, none⟩ = some (.int .i64 x.en) ∧ wr.cell? ⟨gx, 1, none⟩ = some (.int .i64 x.tm) ∧ wr.cell? ⟨gx, 2, none⟩ = some (.int .i64 x.tr) ∧ wr.cell? ⟨gx, 3, none⟩ = some (.int .i64 x.bm) ∧ wr.cell? ⟨gx, 4, none⟩ = some (.int .i64 x.br) ∧ wr.cell? ⟨gx, 5, none⟩ = some (.slice A.sa x.sats.length A.sc) ∧ wr.cell? ⟨gx, 6, none⟩ = some (.slice A.ca x.cus.length A.cc) ∧ wr.cell? ⟨gx, 7, none⟩ = some (.slice A.ka x.cost.length A.kc) ∧ wr.cell? ⟨gx, 8, none⟩ = some (.slice (some ⟨g, 0, none⟩) x.time.length A.tc) ∧ wr.cell? ⟨g, 0, none⟩ = some (.slice (some ⟨VT 0, 0, none⟩) N N) := by
  obtain ⟨k0, k1, k2, k3, k4, k5, k6, k7, k8⟩ := h.fin.cells
  rw [hga] at k8
  obtain ⟨g2, e, q, _⟩ := h.own.time.cell_ (i := 0) (k := 0) hN hN
  rw [hga] at e
  injection e with e
  injection e with e
  subst e
  exact ⟨k0, k1, k2, k3, k4, k5, k6, k7, k8, q⟩
theorem Fresh.timeS2 {wr : World} {gx B N C D g k : Nat} {A : InA} {x : Ins} {VK VT : Nat → Nat} {LK LT : Nat → Nat → Int} (h : Fresh wr gx B A x N C D VK VT LK LT) (hN : 0 < N) (hk : k < N) (hga : A.ta = some ⟨g, 0, none⟩) (z : Int) : (wr.setCell ⟨VT 0, k, none⟩ (.int .i64 z)).cell? ⟨gx, 0, none⟩ = some (.int .i64 x.en) ∧ (wr.setCell ⟨VT 0, k, none⟩ (.int .i64 z)).cell? ⟨gx, 1, none⟩ = some (.int .i64 x.tm) ∧ (wr.setCell ⟨VT 0, k, none⟩ (.int .i64 z)).cell? ⟨gx, 2, none⟩ = some (.int .i64 x.tr) ∧ (wr.setCell ⟨VT 0, k, none⟩ (.int .i64 z)).cell? ⟨gx, 3, none⟩ = some (.int .i64 x.bm) ∧ (wr.setCell ⟨VT 0, k, none⟩ (.int .i64 z)).cell? ⟨gx, 4, none⟩ = some (.int .i64 x.br) ∧ (wr.setCell ⟨VT 0, k, none⟩ (.int .i64 z)).cell? ⟨gx, 5, none⟩ = some (.slice A.sa x.sats.length A.sc) ∧ (wr.setCell ⟨VT 0, k, none⟩ (.int .i64 z)).cell? ⟨gx, 6, none⟩ = some (.slice A.ca x.cus.length A.cc) ∧ (wr.setCell ⟨VT 0, k, none⟩ (.int .i64 z)).cell? ⟨gx, 7, none⟩ = some (.slice A.ka x.cost.length A.kc) ∧ (wr.setCell ⟨VT 0, k, none⟩ (.int .i64 z)).cell? ⟨gx, 8, none⟩ = some (.slice (some ⟨g, 0, none⟩) x.time.length A.tc) ∧ (wr.setCell ⟨VT 0, k, none⟩ (.int .i64 z)).cell? ⟨g, 0, none⟩ = some (.slice (some ⟨VT 0, 0, none⟩) N N) := by
  obtain ⟨k0, k1, k2, k3, k4, k5, k6, k7, k8⟩ := (h.put_time hN hk z).cells
  rw [hga] at k8
  simp only [sqL_length] at k8
  rw [← h.klen.2] at k8
  obtain ⟨g2, e, q, _⟩ := (h.own.time.put (i := 0) hN hk z).cell_ (i := 0) (k := 0) hN hN
  rw [hga] at e
  injection e with e
  injection e with e
  subst e
  exact ⟨k0, k1, k2, k3, k4, k5, k6, k7, k8, q⟩
theorem nodesG (A : InA) (x : Ins) (N g : Nat) (hN : x.nodes = N) (hga : A.ta = some ⟨g, 0, none⟩) (w : World) (h : x.sats.length + x.cus.length ≤ 1000) :
    Calls Try.prog 13 #[.agg #[.int .i64 x.en, .int .i64 x.tm, .int .i64 x.tr, .int .i64 x.bm, .int .i64 x.br, .slice A.sa x.sats.length A.sc, .slice A.ca x.cus.length A.cc, .slice A.ka x.cost.length A.kc, .slice (some ⟨g, 0, none⟩) x.time.length A.tc]] w fun e w' => e = .returned (.int .i64 (N : Int)) ∧ Below w.heap.size w w' := by
  have h1 := nodesN A x N hN w h
  unfold insC at h1
  rw [hga] at h1
  exact h1
theorem mod_natS (a : Int) (n : Nat) (h : 0 < n) (ha : 0 ≤ a) : ∃ k : Nat, (a.tmod (n : Int) = (k : Int) ∧ a % (n : Int) = (k : Int)) ∧ k < n := by
  rw [Int.tmod_eq_emod_of_nonneg ha]
  have h1 := Int.emod_nonneg a (show (n : Int) ≠ 0 by omega)
  have h2 := Int.emod_lt_of_pos a (show (0 : Int) < (n : Int) by omega)
  exact ⟨(a % (n : Int)).toNat, ⟨by omega, by omega⟩, by omega⟩
set_option maxHeartbeats 8000000 in
set_option maxRecDepth 100000 in
theorem instSames_walk (A1 A2 : InA) (x y : Ins) (A : SmA) (s : Sm) (what at_ : Int) (hw1 : 0 ≤ what ∧ what ≤ 255) (ha1 : 0 ≤ at_ ∧ at_ ≤ 255) (n : Int) (w : World) (hx : IsIns w.heap.size w A1 x) (hy : IsIns w.heap.size w A2 y) (hs : IsSm w.heap.size w A s) :
    Calls Try.prog 6 #[.agg (insC A1 x), .agg (insC A2 y), .agg (smC A s), .int .u8 what, .int .u8 at_, .int .i64 n] w fun e w' => e = .returned (.bool true) ∧ Below w.heap.size w w' := by
  have H3 := Lib.hid (Three.make w A1 x A2 y A s)
  have HX := Lib.hid hx
  have HY := Lib.hid hy
  have HSM := Lib.hid hs
  clear hx hy hs
  unfold smC insC at *
  have A0 : Hid (∀ W, Three w W A1 x A2 y A s → IsIns W.heap.size W A1 x ∧ IsIns W.heap.size W A2 y) := Lib.hid (fun W h => ⟨(HX.out.later h.below).mono h.below.size, (HY.out.later h.below).mono h.below.size⟩)
  cases hlx : x.light with
  | false =>
    go_enter Try.func6, Try.ntmps6
    go_wp2_with (first
      | (go_at_call 8; refine (inst_awake _).mono ?_; rintro e w1 ⟨rfl, hb1⟩; have H31 := Lib.hid (H3.out.later hb1); obtain ⟨p0, p1, p2, p3, p4, p5, p6, p7, p8⟩ := H31.out.two.one.cells; clear hb1)
      | (go_at_call 9; refine (light_any A1 x _ (A0.out _ H31.out).1).mono ?_; rw [hlx]; rintro e w2 ⟨rfl, hb2⟩; have H32 := Lib.hid (H31.out.later hb2); clear hb2))
    go_ret
    exact ⟨rfl, H32.out.below⟩
  | true =>
    cases hly : y.light with
    | false =>
      have MK : True := trivial
      go_enter Try.func6, Try.ntmps6
      go_wp2_with (first
        | (go_at_call 8; refine (inst_awake _).mono ?_; rintro e w1 ⟨rfl, hb1⟩; have H31 := Lib.hid (H3.out.later hb1); obtain ⟨p0, p1, p2, p3, p4, p5, p6, p7, p8⟩ := H31.out.two.one.cells; clear hb1)
        | (go_at_call 9; clear MK; refine (light_any A1 x _ (A0.out _ H31.out).1).mono ?_; rw [hlx]; rintro e w2 ⟨rfl, hb2⟩; have H32 := Lib.hid (H31.out.later hb2); clear p0 p1 p2 p3 p4 p5 p6 p7 p8; obtain ⟨p0, p1, p2, p3, p4, p5, p6, p7, p8⟩ := H32.out.two.two.cells; clear hb2)
        | (go_at_call 9; refine (light_any A2 y _ (A0.out _ H32.out).2).mono ?_; rw [hly]; rintro e w3 ⟨rfl, hb3⟩; have H33 := Lib.hid (H32.out.later hb3); clear hb3))
      go_ret
      exact ⟨rfl, H33.out.below⟩
    | true =>
      have MK : True := trivial
      have HMK := Lib.hid (fun (W : World) (h : IsSm W.heap.size W A s) => make_any A s W h)
      have HLM := Lib.hid (makeI_light s)
      have hn1 : (makeI s).sats.length ≤ 3 := (satsOf_le s).2
      have hn2 : 1 ≤ (makeI s).cus.length ∧ (makeI s).cus.length ≤ 6 := cusOf_le s
      have hn4 : 3 ≤ nodesOf s ∧ nodesOf s ≤ 10 := nodes_le s
      have hn5 : nodesOf s = 1 + (makeI s).sats.length + (makeI s).cus.length := rfl
      obtain ⟨m, hm⟩ : ∃ m, makeI s = m := ⟨_, rfl⟩
      obtain ⟨N, hN⟩ : ∃ N, nodesOf s = N := ⟨_, rfl⟩
      rw [hm] at hn1 hn2 HMK HLM
      rw [hm, hN] at hn5
      rw [hN] at hn4 HMK
      have HN5 := Lib.hid hn5
      have HN6 : Hid (m.nodes = N) := Lib.hid hn5.symm
      clear hm hN hn5
      go_enter Try.func6, Try.ntmps6
      go_wp2_with (first
        | (go_at_call 8; refine (inst_awake _).mono ?_; rintro e w1 ⟨rfl, hb1⟩; have H31 := Lib.hid (H3.out.later hb1); obtain ⟨p0, p1, p2, p3, p4, p5, p6, p7, p8⟩ := H31.out.two.one.cells; clear hb1)
        | (go_at_call 9; clear MK; refine (light_any A1 x _ (A0.out _ H31.out).1).mono ?_; rw [hlx]; rintro e w2 ⟨rfl, hb2⟩; have H32 := Lib.hid (H31.out.later hb2); clear p0 p1 p2 p3 p4 p5 p6 p7 p8; obtain ⟨p0, p1, p2, p3, p4, p5, p6, p7, p8⟩ := H32.out.two.two.cells; clear hb2)
        | (go_at_call 9; refine (light_any A2 y _ (A0.out _ H32.out).2).mono ?_; rw [hly]; rintro e w3 ⟨rfl, hb3⟩; clear p0 p1 p2 p3 p4 p5 p6 p7 p8; have H33 := Lib.hid (H32.out.later hb3); clear hb3))
      clear H31 H32 H3
      go_upto_region 5 with fail
      go_cut [13, 14] from 25 to 28 (fun p q wx => ∃ ga gb D0 A3 A4 B C D VK VT LK LT, p = .pointer (some ⟨ga, 0, none⟩) ∧ q = .pointer (some ⟨gb, 0, none⟩) ∧ AW w wx D0 ga A1 x A2 y A s A3 m ∧ Fresh wx gb B A4 m N C D VK VT LK LT ∧ ga ≠ gb ∧ w.heap.size + 3 ≤ gb ∧ D0 ≤ B)
      case first =>
        have HD1 := Lib.hid (H33.out.later (Below.refl _ w3).drew)
        obtain ⟨v1, hv1⟩ : ∃ v1, World.drew w3 = v1 := ⟨_, rfl⟩
        have H1 := HD1
        rw [hv1] at H1
        refine wp_region_held_drew (S := fun W => W.cell? ⟨w.heap.size + 2, 0, none⟩ = some (.int .u8 s.e) ∧ W.cell? ⟨w.heap.size + 2, 1, none⟩ = some (.int .u8 s.t) ∧ W.cell? ⟨w.heap.size + 2, 2, none⟩ = some (.int .u8 s.tr) ∧ W.cell? ⟨w.heap.size + 2, 3, none⟩ = some (.int .u8 s.b) ∧ W.cell? ⟨w.heap.size + 2, 4, none⟩ = some (.int .u8 s.br) ∧ W.cell? ⟨w.heap.size + 2, 5, none⟩ = some (.slice A.sa s.sats.length A.sc) ∧ W.cell? ⟨w.heap.size + 2, 6, none⟩ = some (.slice A.wa s.whos.length A.wc) ∧ W.cell? ⟨w.heap.size + 2, 7, none⟩ = some (.slice A.ca A.cn A.cc) ∧ W.cell? ⟨w.heap.size + 2, 8, none⟩ = some (.slice A.ta A.tn A.tc) ∧ W.cell? ⟨w.heap.size + 2, 9, none⟩ = some (.bool s.tight) ∧ W.cell? ⟨w.heap.size + 2, 10, none⟩ = some (.bool s.loose)) (by kernel_rfl) HD1.out.smallc (fun hHeld => ?_)
        rw [hv1] at hHeld ⊢
        clear hv1 HD1 H33
        refine wpAnyH_take (i := 0) (v := ?_) rfl (by kernel_rfl) (by kernel_rfl) (by kernel_rfl) (fun _ _ _ h => h) (Or.inl ⟨by rfl, ?_⟩) hHeld ?_
        rotate_left
        · intro W0 hW; obtain ⟨hW0, hW1, hW2, hW3, hW4, hW5, hW6, hW7, hW8, hW9, hW10⟩ := hW; go_simp; (try with_reducible rfl)
        try simp only [Act.put, List.setIfInBounds_toArray, List.set_cons_zero, List.set_cons_succ, List.getElem_toArray, List.getElem_cons_zero]
        refine wpAnyH_take (i := 2) (v := ?_) rfl (by kernel_rfl) (by kernel_rfl) (by kernel_rfl) (fun _ _ _ h => h) (Or.inl ⟨by rfl, ?_⟩) hHeld ?_
        rotate_left
        · intro W0 hW; obtain ⟨hW0, hW1, hW2, hW3, hW4, hW5, hW6, hW7, hW8, hW9, hW10⟩ := hW; go_simp; (try with_reducible rfl)
        try simp only [Act.put, List.setIfInBounds_toArray, List.set_cons_zero, List.set_cons_succ, List.getElem_toArray, List.getElem_cons_zero, List.getElem_cons_succ]
        refine wpAnyH_ready (rs := [1, 4, 5]) (by kernel_rfl) (by simp) ?_
        refine AllReadyH.cons rfl (fun K hK => ?_) (AllReadyH.cons rfl (fun K hK => ?_) (AllReadyH.cons rfl (fun K hK => ?_) (AllReadyH.nil)))
        · go_simp
          refine (HMK.out _ (H1.out.here HSM.out)).mono ?_
          rintro e v2 ⟨⟨A3, rfl, C3, D3, VK3, VT3, hown⟩, hb⟩
          have O2 := Lib.hid (AOwn.make hown)
          obtain ⟨D0, hD0⟩ : ∃ D0, v2.heap.size = D0 := ⟨_, rfl⟩
          have E2 : Hid (D0 ≤ v2.heap.size) := Lib.hid (by rw [hD0]; exact Nat.le_refl _)
          rw [hD0] at O2
          have H2 := Lib.hid (H1.out.later hb)
          have HDG : Hid (w.heap.size + 3 ≤ D0) := Lib.hid (by rw [← hD0]; exact H2.out.lt)
          clear hD0
          clear hown hb
          refine hK.out _ _ ?_ (fun hHeld => ?_)
          · exact H2.out.smallc
          clear hK K
          try simp only [Act.put, List.setIfInBounds_toArray, List.set_cons_zero, List.set_cons_succ, List.getElem_toArray, List.getElem_cons_zero, List.getElem_cons_succ]
          refine wpAnyH_ready (rs := [3, 4, 5]) (by kernel_rfl) (by simp) ?_
          refine AllReadyH.cons rfl (fun K hK => ?_) (AllReadyH.cons rfl (fun K hK => ?_) (AllReadyH.cons rfl (fun K hK => ?_) (AllReadyH.nil)))
          · go_simp
            refine (HMK.out _ (H2.out.here HSM.out)).mono ?_
            rintro e v3 ⟨⟨A4, rfl, C4, D4, VK4, VT4, hown⟩, hb⟩
            have R3 := Lib.hid hown
            have HBD : Hid (D0 ≤ v2.heap.size + 3) := Lib.hid (by have := E2.out; omega)
            have H3 := Lib.hid (H2.out.later hb)
            have O3 := Lib.hid (O2.out.later hb)
            have E3 := Lib.hid (Nat.le_trans E2.out hb.size)
            clear hown hb
            refine hK.out _ _ ?_ (fun hHeld => ?_)
            · exact H3.out.smallc
            clear hK K
            try simp only [Act.put, List.setIfInBounds_toArray, List.set_cons_zero, List.set_cons_succ, List.getElem_toArray, List.getElem_cons_zero, List.getElem_cons_succ]
            refine wpAnyH_ready (rs := [4, 5]) (by kernel_rfl) (by simp) ?_
            refine AllReadyH.cons rfl (fun K hK => ?_) (AllReadyH.cons rfl (fun K hK => ?_) (AllReadyH.nil))
            · go_simp
              have hb := below1 v3 (.cells #[.int .i64 0, .int .i64 0, .int .i64 0, .int .i64 0, .int .i64 0, .slice none 0 0, .slice none 0 0, .slice none 0 0, .slice none 0 0] 28)
              have H4 := Lib.hid (H3.out.later hb)
              have P4 := Lib.hid (heap_alloc_new v3 (.cells #[.int .i64 0, .int .i64 0, .int .i64 0, .int .i64 0, .int .i64 0, .slice none 0 0, .slice none 0 0, .slice none 0 0, .slice none 0 0] 28))
              have O4 := Lib.hid (O3.out.later hb)
              have E4 := Lib.hid (Nat.le_trans E3.out hb.size)
              have R4 := Lib.hid (R3.out.later hb)
              refine hK.out _ _ ?_ (fun hHeld => ?_)
              · exact H4.out.smallc
              clear hK K
              try simp only [Act.put, List.setIfInBounds_toArray, List.set_cons_zero, List.set_cons_succ, List.getElem_toArray, List.getElem_cons_zero, List.getElem_cons_succ]
              obtain ⟨ga, hga⟩ : ∃ g, v3.heap.size = g := ⟨_, rfl⟩
              have HGga : Hid (w.heap.size + 3 ≤ ga) := Lib.hid (by rw [← hga]; exact H3.out.lt)
              obtain ⟨v4, hv4⟩ : ∃ W9, World.alloc v3 (.cells #[.int .i64 0, .int .i64 0, .int .i64 0, .int .i64 0, .int .i64 0, .slice none 0 0, .slice none 0 0, .slice none 0 0, .slice none 0 0] 28) = W9 := ⟨_, rfl⟩
              rw [hv4] at hHeld H4 P4 O4 E4 R4 ⊢
              rw [hga] at P4 ⊢
              clear hga hv4 hb
              refine wpAnyH_ready (rs := [5]) (by kernel_rfl) (by simp) ?_
              refine AllReadyH.cons rfl (fun K hK => ?_) (AllReadyH.nil)
              go_simp
              have hb := below1 v4 (.cells #[.int .i64 0, .int .i64 0, .int .i64 0, .int .i64 0, .int .i64 0, .slice none 0 0, .slice none 0 0, .slice none 0 0, .slice none 0 0] 28)
              have H5 := Lib.hid (H4.out.later hb)
              have Q5 := Lib.hid (heap_alloc_new v4 (.cells #[.int .i64 0, .int .i64 0, .int .i64 0, .int .i64 0, .int .i64 0, .slice none 0 0, .slice none 0 0, .slice none 0 0, .slice none 0 0] 28))
              have P5 := Lib.hid ((hb.block _ (Array.getElem?_eq_some_iff.1 P4.out).1).trans P4.out)
              have O5 := Lib.hid (O4.out.later hb)
              have E5 := Lib.hid (Nat.le_trans E4.out hb.size)
              have R5 := Lib.hid (R4.out.later hb)
              refine hK.out _ _ ?_ (fun hHeld => ?_)
              · exact H5.out.smallc
              clear hK K
              try simp only [Act.put, List.setIfInBounds_toArray, List.set_cons_zero, List.set_cons_succ, List.getElem_toArray, List.getElem_cons_zero, List.getElem_cons_succ]
              obtain ⟨gb, hgb⟩ : ∃ g, v4.heap.size = g := ⟨_, rfl⟩
              have HGgb : Hid (w.heap.size + 3 ≤ gb) := Lib.hid (by rw [← hgb]; exact H4.out.lt)
              have HNE : Hid (ga ≠ gb) := Lib.hid (by have := (Array.getElem?_eq_some_iff.1 P4.out).1; omega)
              obtain ⟨v5, hv5⟩ : ∃ W9, World.alloc v4 (.cells #[.int .i64 0, .int .i64 0, .int .i64 0, .int .i64 0, .int .i64 0, .slice none 0 0, .slice none 0 0, .slice none 0 0, .slice none 0 0] 28) = W9 := ⟨_, rfl⟩
              rw [hv5] at hHeld H5 Q5 P5 O5 E5 R5 ⊢
              rw [hgb] at Q5 ⊢
              clear hgb hv5 hb
              obtain ⟨n0, n1, n2, n3, n4, n5, n6, n7, n8, nf⟩ := cells9 P5.out
              have PS := Lib.hid (storeI_blk (y0 := .int .i64 m.en) (y1 := .int .i64 m.tm) (y2 := .int .i64 m.tr) (y3 := .int .i64 m.bm) (y4 := .int .i64 m.br) (y5 := .slice A3.sa m.sats.length A3.sc) (y6 := .slice A3.ca m.cus.length A3.cc) (y7 := .slice A3.ka m.cost.length A3.kc) (y8 := .slice A3.ta m.time.length A3.tc) P5.out)
              have QS := Lib.hid ((storeI_other (y0 := .int .i64 m.en) (y1 := .int .i64 m.tm) (y2 := .int .i64 m.tr) (y3 := .int .i64 m.bm) (y4 := .int .i64 m.br) (y5 := .slice A3.sa m.sats.length A3.sc) (y6 := .slice A3.ca m.cus.length A3.cc) (y7 := .slice A3.ka m.cost.length A3.kc) (y8 := .slice A3.ta m.time.length A3.tc) (Ne.symm HNE.out)).trans Q5.out)
              have HS9 := Lib.hid (H5.out.mod (below_storeI (wr := v5) (y0 := .int .i64 m.en) (y1 := .int .i64 m.tm) (y2 := .int .i64 m.tr) (y3 := .int .i64 m.bm) (y4 := .int .i64 m.br) (y5 := .slice A3.sa m.sats.length A3.sc) (y6 := .slice A3.ca m.cus.length A3.cc) (y7 := .slice A3.ka m.cost.length A3.kc) (y8 := .slice A3.ta m.time.length A3.tc) HGga.out))
              have OS := Lib.hid (O5.out.storeI_ (y0 := .int .i64 m.en) (y1 := .int .i64 m.tm) (y2 := .int .i64 m.tr) (y3 := .int .i64 m.bm) (y4 := .int .i64 m.br) (y5 := .slice A3.sa m.sats.length A3.sc) (y6 := .slice A3.ca m.cus.length A3.cc) (y7 := .slice A3.ka m.cost.length A3.kc) (y8 := .slice A3.ta m.time.length A3.tc) P5.out)
              have RS := Lib.hid (R5.out.storeI_ (y0 := .int .i64 m.en) (y1 := .int .i64 m.tm) (y2 := .int .i64 m.tr) (y3 := .int .i64 m.bm) (y4 := .int .i64 m.br) (y5 := .slice A3.sa m.sats.length A3.sc) (y6 := .slice A3.ca m.cus.length A3.cc) (y7 := .slice A3.ka m.cost.length A3.kc) (y8 := .slice A3.ta m.time.length A3.tc) P5.out)
              refine wpAnyH_ready (rs := [6]) (by kernel_rfl) (by simp) ?_
              refine AllReadyH.cons rfl (fun K hK => ?_) (AllReadyH.nil)
              go_simp
              refine hK.out _ _ ?_ (fun hHeld => ?_)
              · exact HS9.out.smallc
              clear hK K
              try simp only [Act.put, List.setIfInBounds_toArray, List.set_cons_zero, List.set_cons_succ, List.getElem_toArray, List.getElem_cons_zero, List.getElem_cons_succ]
              clear n0 n1 n2 n3 n4 n5 n6 n7 n8 nf
              obtain ⟨v9, hv9⟩ : ∃ v9, storeI v5 ga (.int .i64 m.en) (.int .i64 m.tm) (.int .i64 m.tr) (.int .i64 m.bm) (.int .i64 m.br) (.slice A3.sa m.sats.length A3.sc) (.slice A3.ca m.cus.length A3.cc) (.slice A3.ka m.cost.length A3.kc) (.slice A3.ta m.time.length A3.tc) = v9 := ⟨_, rfl⟩
              rw [hv9] at PS QS HS9 OS RS
              unfold storeI at hv9
              rw [hv9] at hHeld ⊢
              clear hv9
              obtain ⟨n0, n1, n2, n3, n4, n5, n6, n7, n8, nf⟩ := cells9 QS.out
              have QT := Lib.hid (storeI_blk (y0 := .int .i64 m.en) (y1 := .int .i64 m.tm) (y2 := .int .i64 m.tr) (y3 := .int .i64 m.bm) (y4 := .int .i64 m.br) (y5 := .slice A4.sa m.sats.length A4.sc) (y6 := .slice A4.ca m.cus.length A4.cc) (y7 := .slice A4.ka m.cost.length A4.kc) (y8 := .slice A4.ta m.time.length A4.tc) QS.out)
              have PT := Lib.hid ((storeI_other (y0 := .int .i64 m.en) (y1 := .int .i64 m.tm) (y2 := .int .i64 m.tr) (y3 := .int .i64 m.bm) (y4 := .int .i64 m.br) (y5 := .slice A4.sa m.sats.length A4.sc) (y6 := .slice A4.ca m.cus.length A4.cc) (y7 := .slice A4.ka m.cost.length A4.kc) (y8 := .slice A4.ta m.time.length A4.tc) HNE.out).trans PS.out)
              have HT9 := Lib.hid (HS9.out.mod (below_storeI (wr := v9) (y0 := .int .i64 m.en) (y1 := .int .i64 m.tm) (y2 := .int .i64 m.tr) (y3 := .int .i64 m.bm) (y4 := .int .i64 m.br) (y5 := .slice A4.sa m.sats.length A4.sc) (y6 := .slice A4.ca m.cus.length A4.cc) (y7 := .slice A4.ka m.cost.length A4.kc) (y8 := .slice A4.ta m.time.length A4.tc) HGgb.out))
              have OT := Lib.hid (OS.out.storeI_ (y0 := .int .i64 m.en) (y1 := .int .i64 m.tm) (y2 := .int .i64 m.tr) (y3 := .int .i64 m.bm) (y4 := .int .i64 m.br) (y5 := .slice A4.sa m.sats.length A4.sc) (y6 := .slice A4.ca m.cus.length A4.cc) (y7 := .slice A4.ka m.cost.length A4.kc) (y8 := .slice A4.ta m.time.length A4.tc) QS.out)
              have RT := Lib.hid (RS.out.storeI_ (y0 := .int .i64 m.en) (y1 := .int .i64 m.tm) (y2 := .int .i64 m.tr) (y3 := .int .i64 m.bm) (y4 := .int .i64 m.br) (y5 := .slice A4.sa m.sats.length A4.sc) (y6 := .slice A4.ca m.cus.length A4.cc) (y7 := .slice A4.ka m.cost.length A4.kc) (y8 := .slice A4.ta m.time.length A4.tc) QS.out)
              refine wpAnyH_ready (rs := [7]) (by kernel_rfl) (by simp) ?_
              refine AllReadyH.cons rfl (fun K hK => ?_) (AllReadyH.nil)
              go_simp
              refine hK.out _ _ ?_ (fun hHeld => ?_)
              · exact HT9.out.smallc
              clear hK K
              try simp only [Act.put, List.setIfInBounds_toArray, List.set_cons_zero, List.set_cons_succ, List.getElem_toArray, List.getElem_cons_zero, List.getElem_cons_succ]
              refine wpAnyH_done (by kernel_rfl) ?_ _
              clear hHeld n0 n1 n2 n3 n4 n5 n6 n7 n8 nf
              go_wp2_with fail
              go_meet
              exact ⟨ga, gb, D0, A3, A4, _, C4, D4, VK4, VT4, _, _, rfl, rfl, ⟨HT9.out, PT.out, OT.out, HGga.out, HDG.out⟩, ⟨QT.out, RT.out, hn1, hn2.2, hn4.2⟩, HNE.out, HGgb.out, HBD.out⟩
            · go_simp
              have hb := below1 v3 (.cells #[.int .i64 0, .int .i64 0, .int .i64 0, .int .i64 0, .int .i64 0, .slice none 0 0, .slice none 0 0, .slice none 0 0, .slice none 0 0] 28)
              have H4 := Lib.hid (H3.out.later hb)
              have Q4 := Lib.hid (heap_alloc_new v3 (.cells #[.int .i64 0, .int .i64 0, .int .i64 0, .int .i64 0, .int .i64 0, .slice none 0 0, .slice none 0 0, .slice none 0 0, .slice none 0 0] 28))
              have O4 := Lib.hid (O3.out.later hb)
              have E4 := Lib.hid (Nat.le_trans E3.out hb.size)
              have R4 := Lib.hid (R3.out.later hb)
              refine hK.out _ _ ?_ (fun hHeld => ?_)
              · exact H4.out.smallc
              clear hK K
              try simp only [Act.put, List.setIfInBounds_toArray, List.set_cons_zero, List.set_cons_succ, List.getElem_toArray, List.getElem_cons_zero, List.getElem_cons_succ]
              obtain ⟨gb, hgb⟩ : ∃ g, v3.heap.size = g := ⟨_, rfl⟩
              have HGgb : Hid (w.heap.size + 3 ≤ gb) := Lib.hid (by rw [← hgb]; exact H3.out.lt)
              obtain ⟨v4, hv4⟩ : ∃ W9, World.alloc v3 (.cells #[.int .i64 0, .int .i64 0, .int .i64 0, .int .i64 0, .int .i64 0, .slice none 0 0, .slice none 0 0, .slice none 0 0, .slice none 0 0] 28) = W9 := ⟨_, rfl⟩
              rw [hv4] at hHeld H4 Q4 O4 E4 R4 ⊢
              rw [hgb] at Q4 ⊢
              clear hgb hv4 hb
              refine wpAnyH_ready (rs := [4]) (by kernel_rfl) (by simp) ?_
              refine AllReadyH.cons rfl (fun K hK => ?_) (AllReadyH.nil)
              go_simp
              have hb := below1 v4 (.cells #[.int .i64 0, .int .i64 0, .int .i64 0, .int .i64 0, .int .i64 0, .slice none 0 0, .slice none 0 0, .slice none 0 0, .slice none 0 0] 28)
              have H5 := Lib.hid (H4.out.later hb)
              have P5 := Lib.hid (heap_alloc_new v4 (.cells #[.int .i64 0, .int .i64 0, .int .i64 0, .int .i64 0, .int .i64 0, .slice none 0 0, .slice none 0 0, .slice none 0 0, .slice none 0 0] 28))
              have Q5 := Lib.hid ((hb.block _ (Array.getElem?_eq_some_iff.1 Q4.out).1).trans Q4.out)
              have O5 := Lib.hid (O4.out.later hb)
              have E5 := Lib.hid (Nat.le_trans E4.out hb.size)
              have R5 := Lib.hid (R4.out.later hb)
              refine hK.out _ _ ?_ (fun hHeld => ?_)
              · exact H5.out.smallc
              clear hK K
              try simp only [Act.put, List.setIfInBounds_toArray, List.set_cons_zero, List.set_cons_succ, List.getElem_toArray, List.getElem_cons_zero, List.getElem_cons_succ]
              obtain ⟨ga, hga⟩ : ∃ g, v4.heap.size = g := ⟨_, rfl⟩
              have HGga : Hid (w.heap.size + 3 ≤ ga) := Lib.hid (by rw [← hga]; exact H4.out.lt)
              have HNE : Hid (ga ≠ gb) := Lib.hid (by have := (Array.getElem?_eq_some_iff.1 Q4.out).1; omega)
              obtain ⟨v5, hv5⟩ : ∃ W9, World.alloc v4 (.cells #[.int .i64 0, .int .i64 0, .int .i64 0, .int .i64 0, .int .i64 0, .slice none 0 0, .slice none 0 0, .slice none 0 0, .slice none 0 0] 28) = W9 := ⟨_, rfl⟩
              rw [hv5] at hHeld H5 P5 Q5 O5 E5 R5 ⊢
              rw [hga] at P5 ⊢
              clear hga hv5 hb
              obtain ⟨n0, n1, n2, n3, n4, n5, n6, n7, n8, nf⟩ := cells9 P5.out
              have PS := Lib.hid (storeI_blk (y0 := .int .i64 m.en) (y1 := .int .i64 m.tm) (y2 := .int .i64 m.tr) (y3 := .int .i64 m.bm) (y4 := .int .i64 m.br) (y5 := .slice A3.sa m.sats.length A3.sc) (y6 := .slice A3.ca m.cus.length A3.cc) (y7 := .slice A3.ka m.cost.length A3.kc) (y8 := .slice A3.ta m.time.length A3.tc) P5.out)
              have QS := Lib.hid ((storeI_other (y0 := .int .i64 m.en) (y1 := .int .i64 m.tm) (y2 := .int .i64 m.tr) (y3 := .int .i64 m.bm) (y4 := .int .i64 m.br) (y5 := .slice A3.sa m.sats.length A3.sc) (y6 := .slice A3.ca m.cus.length A3.cc) (y7 := .slice A3.ka m.cost.length A3.kc) (y8 := .slice A3.ta m.time.length A3.tc) (Ne.symm HNE.out)).trans Q5.out)
              have HS9 := Lib.hid (H5.out.mod (below_storeI (wr := v5) (y0 := .int .i64 m.en) (y1 := .int .i64 m.tm) (y2 := .int .i64 m.tr) (y3 := .int .i64 m.bm) (y4 := .int .i64 m.br) (y5 := .slice A3.sa m.sats.length A3.sc) (y6 := .slice A3.ca m.cus.length A3.cc) (y7 := .slice A3.ka m.cost.length A3.kc) (y8 := .slice A3.ta m.time.length A3.tc) HGga.out))
              have OS := Lib.hid (O5.out.storeI_ (y0 := .int .i64 m.en) (y1 := .int .i64 m.tm) (y2 := .int .i64 m.tr) (y3 := .int .i64 m.bm) (y4 := .int .i64 m.br) (y5 := .slice A3.sa m.sats.length A3.sc) (y6 := .slice A3.ca m.cus.length A3.cc) (y7 := .slice A3.ka m.cost.length A3.kc) (y8 := .slice A3.ta m.time.length A3.tc) P5.out)
              have RS := Lib.hid (R5.out.storeI_ (y0 := .int .i64 m.en) (y1 := .int .i64 m.tm) (y2 := .int .i64 m.tr) (y3 := .int .i64 m.bm) (y4 := .int .i64 m.br) (y5 := .slice A3.sa m.sats.length A3.sc) (y6 := .slice A3.ca m.cus.length A3.cc) (y7 := .slice A3.ka m.cost.length A3.kc) (y8 := .slice A3.ta m.time.length A3.tc) P5.out)
              refine wpAnyH_ready (rs := [6]) (by kernel_rfl) (by simp) ?_
              refine AllReadyH.cons rfl (fun K hK => ?_) (AllReadyH.nil)
              go_simp
              refine hK.out _ _ ?_ (fun hHeld => ?_)
              · exact HS9.out.smallc
              clear hK K
              try simp only [Act.put, List.setIfInBounds_toArray, List.set_cons_zero, List.set_cons_succ, List.getElem_toArray, List.getElem_cons_zero, List.getElem_cons_succ]
              clear n0 n1 n2 n3 n4 n5 n6 n7 n8 nf
              obtain ⟨v9, hv9⟩ : ∃ v9, storeI v5 ga (.int .i64 m.en) (.int .i64 m.tm) (.int .i64 m.tr) (.int .i64 m.bm) (.int .i64 m.br) (.slice A3.sa m.sats.length A3.sc) (.slice A3.ca m.cus.length A3.cc) (.slice A3.ka m.cost.length A3.kc) (.slice A3.ta m.time.length A3.tc) = v9 := ⟨_, rfl⟩
              rw [hv9] at PS QS HS9 OS RS
              unfold storeI at hv9
              rw [hv9] at hHeld ⊢
              clear hv9
              obtain ⟨n0, n1, n2, n3, n4, n5, n6, n7, n8, nf⟩ := cells9 QS.out
              have QT := Lib.hid (storeI_blk (y0 := .int .i64 m.en) (y1 := .int .i64 m.tm) (y2 := .int .i64 m.tr) (y3 := .int .i64 m.bm) (y4 := .int .i64 m.br) (y5 := .slice A4.sa m.sats.length A4.sc) (y6 := .slice A4.ca m.cus.length A4.cc) (y7 := .slice A4.ka m.cost.length A4.kc) (y8 := .slice A4.ta m.time.length A4.tc) QS.out)
              have PT := Lib.hid ((storeI_other (y0 := .int .i64 m.en) (y1 := .int .i64 m.tm) (y2 := .int .i64 m.tr) (y3 := .int .i64 m.bm) (y4 := .int .i64 m.br) (y5 := .slice A4.sa m.sats.length A4.sc) (y6 := .slice A4.ca m.cus.length A4.cc) (y7 := .slice A4.ka m.cost.length A4.kc) (y8 := .slice A4.ta m.time.length A4.tc) HNE.out).trans PS.out)
              have HT9 := Lib.hid (HS9.out.mod (below_storeI (wr := v9) (y0 := .int .i64 m.en) (y1 := .int .i64 m.tm) (y2 := .int .i64 m.tr) (y3 := .int .i64 m.bm) (y4 := .int .i64 m.br) (y5 := .slice A4.sa m.sats.length A4.sc) (y6 := .slice A4.ca m.cus.length A4.cc) (y7 := .slice A4.ka m.cost.length A4.kc) (y8 := .slice A4.ta m.time.length A4.tc) HGgb.out))
              have OT := Lib.hid (OS.out.storeI_ (y0 := .int .i64 m.en) (y1 := .int .i64 m.tm) (y2 := .int .i64 m.tr) (y3 := .int .i64 m.bm) (y4 := .int .i64 m.br) (y5 := .slice A4.sa m.sats.length A4.sc) (y6 := .slice A4.ca m.cus.length A4.cc) (y7 := .slice A4.ka m.cost.length A4.kc) (y8 := .slice A4.ta m.time.length A4.tc) QS.out)
              have RT := Lib.hid (RS.out.storeI_ (y0 := .int .i64 m.en) (y1 := .int .i64 m.tm) (y2 := .int .i64 m.tr) (y3 := .int .i64 m.bm) (y4 := .int .i64 m.br) (y5 := .slice A4.sa m.sats.length A4.sc) (y6 := .slice A4.ca m.cus.length A4.cc) (y7 := .slice A4.ka m.cost.length A4.kc) (y8 := .slice A4.ta m.time.length A4.tc) QS.out)
              refine wpAnyH_ready (rs := [7]) (by kernel_rfl) (by simp) ?_
              refine AllReadyH.cons rfl (fun K hK => ?_) (AllReadyH.nil)
              go_simp
              refine hK.out _ _ ?_ (fun hHeld => ?_)
              · exact HT9.out.smallc
              clear hK K
              try simp only [Act.put, List.setIfInBounds_toArray, List.set_cons_zero, List.set_cons_succ, List.getElem_toArray, List.getElem_cons_zero, List.getElem_cons_succ]
              refine wpAnyH_done (by kernel_rfl) ?_ _
              clear hHeld n0 n1 n2 n3 n4 n5 n6 n7 n8 nf
              go_wp2_with fail
              go_meet
              exact ⟨ga, gb, D0, A3, A4, _, C4, D4, VK4, VT4, _, _, rfl, rfl, ⟨HT9.out, PT.out, OT.out, HGga.out, HDG.out⟩, ⟨QT.out, RT.out, hn1, hn2.2, hn4.2⟩, HNE.out, HGgb.out, HBD.out⟩
          · go_simp
            have hb := below1 v2 (.cells #[.int .i64 0, .int .i64 0, .int .i64 0, .int .i64 0, .int .i64 0, .slice none 0 0, .slice none 0 0, .slice none 0 0, .slice none 0 0] 28)
            have H3 := Lib.hid (H2.out.later hb)
            have P3 := Lib.hid (heap_alloc_new v2 (.cells #[.int .i64 0, .int .i64 0, .int .i64 0, .int .i64 0, .int .i64 0, .slice none 0 0, .slice none 0 0, .slice none 0 0, .slice none 0 0] 28))
            have O3 := Lib.hid (O2.out.later hb)
            have E3 := Lib.hid (Nat.le_trans E2.out hb.size)
            refine hK.out _ _ ?_ (fun hHeld => ?_)
            · exact H3.out.smallc
            clear hK K
            try simp only [Act.put, List.setIfInBounds_toArray, List.set_cons_zero, List.set_cons_succ, List.getElem_toArray, List.getElem_cons_zero, List.getElem_cons_succ]
            obtain ⟨ga, hga⟩ : ∃ g, v2.heap.size = g := ⟨_, rfl⟩
            have HGga : Hid (w.heap.size + 3 ≤ ga) := Lib.hid (by rw [← hga]; exact H2.out.lt)
            obtain ⟨v3, hv3⟩ : ∃ W9, World.alloc v2 (.cells #[.int .i64 0, .int .i64 0, .int .i64 0, .int .i64 0, .int .i64 0, .slice none 0 0, .slice none 0 0, .slice none 0 0, .slice none 0 0] 28) = W9 := ⟨_, rfl⟩
            rw [hv3] at hHeld H3 P3 O3 E3 ⊢
            rw [hga] at P3 ⊢
            clear hga hv3 hb
            refine wpAnyH_ready (rs := [3, 5]) (by kernel_rfl) (by simp) ?_
            refine AllReadyH.cons rfl (fun K hK => ?_) (AllReadyH.cons rfl (fun K hK => ?_) (AllReadyH.nil))
            · go_simp
              refine (HMK.out _ (H3.out.here HSM.out)).mono ?_
              rintro e v4 ⟨⟨A4, rfl, C4, D4, VK4, VT4, hown⟩, hb⟩
              have R4 := Lib.hid hown
              have HBD : Hid (D0 ≤ v3.heap.size + 3) := Lib.hid (by have := E3.out; omega)
              have H4 := Lib.hid (H3.out.later hb)
              have P4 := Lib.hid ((hb.block _ (Array.getElem?_eq_some_iff.1 P3.out).1).trans P3.out)
              have O4 := Lib.hid (O3.out.later hb)
              have E4 := Lib.hid (Nat.le_trans E3.out hb.size)
              clear hown hb
              refine hK.out _ _ ?_ (fun hHeld => ?_)
              · exact H4.out.smallc
              clear hK K
              try simp only [Act.put, List.setIfInBounds_toArray, List.set_cons_zero, List.set_cons_succ, List.getElem_toArray, List.getElem_cons_zero, List.getElem_cons_succ]
              refine wpAnyH_ready (rs := [5]) (by kernel_rfl) (by simp) ?_
              refine AllReadyH.cons rfl (fun K hK => ?_) (AllReadyH.nil)
              go_simp
              have hb := below1 v4 (.cells #[.int .i64 0, .int .i64 0, .int .i64 0, .int .i64 0, .int .i64 0, .slice none 0 0, .slice none 0 0, .slice none 0 0, .slice none 0 0] 28)
              have H5 := Lib.hid (H4.out.later hb)
              have Q5 := Lib.hid (heap_alloc_new v4 (.cells #[.int .i64 0, .int .i64 0, .int .i64 0, .int .i64 0, .int .i64 0, .slice none 0 0, .slice none 0 0, .slice none 0 0, .slice none 0 0] 28))
              have P5 := Lib.hid ((hb.block _ (Array.getElem?_eq_some_iff.1 P4.out).1).trans P4.out)
              have O5 := Lib.hid (O4.out.later hb)
              have E5 := Lib.hid (Nat.le_trans E4.out hb.size)
              have R5 := Lib.hid (R4.out.later hb)
              refine hK.out _ _ ?_ (fun hHeld => ?_)
              · exact H5.out.smallc
              clear hK K
              try simp only [Act.put, List.setIfInBounds_toArray, List.set_cons_zero, List.set_cons_succ, List.getElem_toArray, List.getElem_cons_zero, List.getElem_cons_succ]
              obtain ⟨gb, hgb⟩ : ∃ g, v4.heap.size = g := ⟨_, rfl⟩
              have HGgb : Hid (w.heap.size + 3 ≤ gb) := Lib.hid (by rw [← hgb]; exact H4.out.lt)
              have HNE : Hid (ga ≠ gb) := Lib.hid (by have := (Array.getElem?_eq_some_iff.1 P4.out).1; omega)
              obtain ⟨v5, hv5⟩ : ∃ W9, World.alloc v4 (.cells #[.int .i64 0, .int .i64 0, .int .i64 0, .int .i64 0, .int .i64 0, .slice none 0 0, .slice none 0 0, .slice none 0 0, .slice none 0 0] 28) = W9 := ⟨_, rfl⟩
              rw [hv5] at hHeld H5 Q5 P5 O5 E5 R5 ⊢
              rw [hgb] at Q5 ⊢
              clear hgb hv5 hb
              obtain ⟨n0, n1, n2, n3, n4, n5, n6, n7, n8, nf⟩ := cells9 P5.out
              have PS := Lib.hid (storeI_blk (y0 := .int .i64 m.en) (y1 := .int .i64 m.tm) (y2 := .int .i64 m.tr) (y3 := .int .i64 m.bm) (y4 := .int .i64 m.br) (y5 := .slice A3.sa m.sats.length A3.sc) (y6 := .slice A3.ca m.cus.length A3.cc) (y7 := .slice A3.ka m.cost.length A3.kc) (y8 := .slice A3.ta m.time.length A3.tc) P5.out)
              have QS := Lib.hid ((storeI_other (y0 := .int .i64 m.en) (y1 := .int .i64 m.tm) (y2 := .int .i64 m.tr) (y3 := .int .i64 m.bm) (y4 := .int .i64 m.br) (y5 := .slice A3.sa m.sats.length A3.sc) (y6 := .slice A3.ca m.cus.length A3.cc) (y7 := .slice A3.ka m.cost.length A3.kc) (y8 := .slice A3.ta m.time.length A3.tc) (Ne.symm HNE.out)).trans Q5.out)
              have HS9 := Lib.hid (H5.out.mod (below_storeI (wr := v5) (y0 := .int .i64 m.en) (y1 := .int .i64 m.tm) (y2 := .int .i64 m.tr) (y3 := .int .i64 m.bm) (y4 := .int .i64 m.br) (y5 := .slice A3.sa m.sats.length A3.sc) (y6 := .slice A3.ca m.cus.length A3.cc) (y7 := .slice A3.ka m.cost.length A3.kc) (y8 := .slice A3.ta m.time.length A3.tc) HGga.out))
              have OS := Lib.hid (O5.out.storeI_ (y0 := .int .i64 m.en) (y1 := .int .i64 m.tm) (y2 := .int .i64 m.tr) (y3 := .int .i64 m.bm) (y4 := .int .i64 m.br) (y5 := .slice A3.sa m.sats.length A3.sc) (y6 := .slice A3.ca m.cus.length A3.cc) (y7 := .slice A3.ka m.cost.length A3.kc) (y8 := .slice A3.ta m.time.length A3.tc) P5.out)
              have RS := Lib.hid (R5.out.storeI_ (y0 := .int .i64 m.en) (y1 := .int .i64 m.tm) (y2 := .int .i64 m.tr) (y3 := .int .i64 m.bm) (y4 := .int .i64 m.br) (y5 := .slice A3.sa m.sats.length A3.sc) (y6 := .slice A3.ca m.cus.length A3.cc) (y7 := .slice A3.ka m.cost.length A3.kc) (y8 := .slice A3.ta m.time.length A3.tc) P5.out)
              refine wpAnyH_ready (rs := [6]) (by kernel_rfl) (by simp) ?_
              refine AllReadyH.cons rfl (fun K hK => ?_) (AllReadyH.nil)
              go_simp
              refine hK.out _ _ ?_ (fun hHeld => ?_)
              · exact HS9.out.smallc
              clear hK K
              try simp only [Act.put, List.setIfInBounds_toArray, List.set_cons_zero, List.set_cons_succ, List.getElem_toArray, List.getElem_cons_zero, List.getElem_cons_succ]
              clear n0 n1 n2 n3 n4 n5 n6 n7 n8 nf
              obtain ⟨v9, hv9⟩ : ∃ v9, storeI v5 ga (.int .i64 m.en) (.int .i64 m.tm) (.int .i64 m.tr) (.int .i64 m.bm) (.int .i64 m.br) (.slice A3.sa m.sats.length A3.sc) (.slice A3.ca m.cus.length A3.cc) (.slice A3.ka m.cost.length A3.kc) (.slice A3.ta m.time.length A3.tc) = v9 := ⟨_, rfl⟩
              rw [hv9] at PS QS HS9 OS RS
              unfold storeI at hv9
              rw [hv9] at hHeld ⊢
              clear hv9
              obtain ⟨n0, n1, n2, n3, n4, n5, n6, n7, n8, nf⟩ := cells9 QS.out
              have QT := Lib.hid (storeI_blk (y0 := .int .i64 m.en) (y1 := .int .i64 m.tm) (y2 := .int .i64 m.tr) (y3 := .int .i64 m.bm) (y4 := .int .i64 m.br) (y5 := .slice A4.sa m.sats.length A4.sc) (y6 := .slice A4.ca m.cus.length A4.cc) (y7 := .slice A4.ka m.cost.length A4.kc) (y8 := .slice A4.ta m.time.length A4.tc) QS.out)
              have PT := Lib.hid ((storeI_other (y0 := .int .i64 m.en) (y1 := .int .i64 m.tm) (y2 := .int .i64 m.tr) (y3 := .int .i64 m.bm) (y4 := .int .i64 m.br) (y5 := .slice A4.sa m.sats.length A4.sc) (y6 := .slice A4.ca m.cus.length A4.cc) (y7 := .slice A4.ka m.cost.length A4.kc) (y8 := .slice A4.ta m.time.length A4.tc) HNE.out).trans PS.out)
              have HT9 := Lib.hid (HS9.out.mod (below_storeI (wr := v9) (y0 := .int .i64 m.en) (y1 := .int .i64 m.tm) (y2 := .int .i64 m.tr) (y3 := .int .i64 m.bm) (y4 := .int .i64 m.br) (y5 := .slice A4.sa m.sats.length A4.sc) (y6 := .slice A4.ca m.cus.length A4.cc) (y7 := .slice A4.ka m.cost.length A4.kc) (y8 := .slice A4.ta m.time.length A4.tc) HGgb.out))
              have OT := Lib.hid (OS.out.storeI_ (y0 := .int .i64 m.en) (y1 := .int .i64 m.tm) (y2 := .int .i64 m.tr) (y3 := .int .i64 m.bm) (y4 := .int .i64 m.br) (y5 := .slice A4.sa m.sats.length A4.sc) (y6 := .slice A4.ca m.cus.length A4.cc) (y7 := .slice A4.ka m.cost.length A4.kc) (y8 := .slice A4.ta m.time.length A4.tc) QS.out)
              have RT := Lib.hid (RS.out.storeI_ (y0 := .int .i64 m.en) (y1 := .int .i64 m.tm) (y2 := .int .i64 m.tr) (y3 := .int .i64 m.bm) (y4 := .int .i64 m.br) (y5 := .slice A4.sa m.sats.length A4.sc) (y6 := .slice A4.ca m.cus.length A4.cc) (y7 := .slice A4.ka m.cost.length A4.kc) (y8 := .slice A4.ta m.time.length A4.tc) QS.out)
              refine wpAnyH_ready (rs := [7]) (by kernel_rfl) (by simp) ?_
              refine AllReadyH.cons rfl (fun K hK => ?_) (AllReadyH.nil)
              go_simp
              refine hK.out _ _ ?_ (fun hHeld => ?_)
              · exact HT9.out.smallc
              clear hK K
              try simp only [Act.put, List.setIfInBounds_toArray, List.set_cons_zero, List.set_cons_succ, List.getElem_toArray, List.getElem_cons_zero, List.getElem_cons_succ]
              refine wpAnyH_done (by kernel_rfl) ?_ _
              clear hHeld n0 n1 n2 n3 n4 n5 n6 n7 n8 nf
              go_wp2_with fail
              go_meet
              exact ⟨ga, gb, D0, A3, A4, _, C4, D4, VK4, VT4, _, _, rfl, rfl, ⟨HT9.out, PT.out, OT.out, HGga.out, HDG.out⟩, ⟨QT.out, RT.out, hn1, hn2.2, hn4.2⟩, HNE.out, HGgb.out, HBD.out⟩
            · go_simp
              have hb := below1 v3 (.cells #[.int .i64 0, .int .i64 0, .int .i64 0, .int .i64 0, .int .i64 0, .slice none 0 0, .slice none 0 0, .slice none 0 0, .slice none 0 0] 28)
              have H4 := Lib.hid (H3.out.later hb)
              have Q4 := Lib.hid (heap_alloc_new v3 (.cells #[.int .i64 0, .int .i64 0, .int .i64 0, .int .i64 0, .int .i64 0, .slice none 0 0, .slice none 0 0, .slice none 0 0, .slice none 0 0] 28))
              have P4 := Lib.hid ((hb.block _ (Array.getElem?_eq_some_iff.1 P3.out).1).trans P3.out)
              have O4 := Lib.hid (O3.out.later hb)
              have E4 := Lib.hid (Nat.le_trans E3.out hb.size)
              refine hK.out _ _ ?_ (fun hHeld => ?_)
              · exact H4.out.smallc
              clear hK K
              try simp only [Act.put, List.setIfInBounds_toArray, List.set_cons_zero, List.set_cons_succ, List.getElem_toArray, List.getElem_cons_zero, List.getElem_cons_succ]
              obtain ⟨gb, hgb⟩ : ∃ g, v3.heap.size = g := ⟨_, rfl⟩
              have HGgb : Hid (w.heap.size + 3 ≤ gb) := Lib.hid (by rw [← hgb]; exact H3.out.lt)
              have HNE : Hid (ga ≠ gb) := Lib.hid (by have := (Array.getElem?_eq_some_iff.1 P3.out).1; omega)
              obtain ⟨v4, hv4⟩ : ∃ W9, World.alloc v3 (.cells #[.int .i64 0, .int .i64 0, .int .i64 0, .int .i64 0, .int .i64 0, .slice none 0 0, .slice none 0 0, .slice none 0 0, .slice none 0 0] 28) = W9 := ⟨_, rfl⟩
              rw [hv4] at hHeld H4 Q4 P4 O4 E4 ⊢
              rw [hgb] at Q4 ⊢
              clear hgb hv4 hb
              refine wpAnyH_ready (rs := [3]) (by kernel_rfl) (by simp) ?_
              refine AllReadyH.cons rfl (fun K hK => ?_) (AllReadyH.nil)
              go_simp
              refine (HMK.out _ (H4.out.here HSM.out)).mono ?_
              rintro e v5 ⟨⟨A4, rfl, C4, D4, VK4, VT4, hown⟩, hb⟩
              have R5 := Lib.hid hown
              have HBD : Hid (D0 ≤ v4.heap.size + 3) := Lib.hid (by have := E4.out; omega)
              have H5 := Lib.hid (H4.out.later hb)
              have P5 := Lib.hid ((hb.block _ (Array.getElem?_eq_some_iff.1 P4.out).1).trans P4.out)
              have Q5 := Lib.hid ((hb.block _ (Array.getElem?_eq_some_iff.1 Q4.out).1).trans Q4.out)
              have O5 := Lib.hid (O4.out.later hb)
              have E5 := Lib.hid (Nat.le_trans E4.out hb.size)
              clear hown hb
              refine hK.out _ _ ?_ (fun hHeld => ?_)
              · exact H5.out.smallc
              clear hK K
              try simp only [Act.put, List.setIfInBounds_toArray, List.set_cons_zero, List.set_cons_succ, List.getElem_toArray, List.getElem_cons_zero, List.getElem_cons_succ]
              obtain ⟨n0, n1, n2, n3, n4, n5, n6, n7, n8, nf⟩ := cells9 P5.out
              have PS := Lib.hid (storeI_blk (y0 := .int .i64 m.en) (y1 := .int .i64 m.tm) (y2 := .int .i64 m.tr) (y3 := .int .i64 m.bm) (y4 := .int .i64 m.br) (y5 := .slice A3.sa m.sats.length A3.sc) (y6 := .slice A3.ca m.cus.length A3.cc) (y7 := .slice A3.ka m.cost.length A3.kc) (y8 := .slice A3.ta m.time.length A3.tc) P5.out)
              have QS := Lib.hid ((storeI_other (y0 := .int .i64 m.en) (y1 := .int .i64 m.tm) (y2 := .int .i64 m.tr) (y3 := .int .i64 m.bm) (y4 := .int .i64 m.br) (y5 := .slice A3.sa m.sats.length A3.sc) (y6 := .slice A3.ca m.cus.length A3.cc) (y7 := .slice A3.ka m.cost.length A3.kc) (y8 := .slice A3.ta m.time.length A3.tc) (Ne.symm HNE.out)).trans Q5.out)
              have HS9 := Lib.hid (H5.out.mod (below_storeI (wr := v5) (y0 := .int .i64 m.en) (y1 := .int .i64 m.tm) (y2 := .int .i64 m.tr) (y3 := .int .i64 m.bm) (y4 := .int .i64 m.br) (y5 := .slice A3.sa m.sats.length A3.sc) (y6 := .slice A3.ca m.cus.length A3.cc) (y7 := .slice A3.ka m.cost.length A3.kc) (y8 := .slice A3.ta m.time.length A3.tc) HGga.out))
              have OS := Lib.hid (O5.out.storeI_ (y0 := .int .i64 m.en) (y1 := .int .i64 m.tm) (y2 := .int .i64 m.tr) (y3 := .int .i64 m.bm) (y4 := .int .i64 m.br) (y5 := .slice A3.sa m.sats.length A3.sc) (y6 := .slice A3.ca m.cus.length A3.cc) (y7 := .slice A3.ka m.cost.length A3.kc) (y8 := .slice A3.ta m.time.length A3.tc) P5.out)
              have RS := Lib.hid (R5.out.storeI_ (y0 := .int .i64 m.en) (y1 := .int .i64 m.tm) (y2 := .int .i64 m.tr) (y3 := .int .i64 m.bm) (y4 := .int .i64 m.br) (y5 := .slice A3.sa m.sats.length A3.sc) (y6 := .slice A3.ca m.cus.length A3.cc) (y7 := .slice A3.ka m.cost.length A3.kc) (y8 := .slice A3.ta m.time.length A3.tc) P5.out)
              refine wpAnyH_ready (rs := [6]) (by kernel_rfl) (by simp) ?_
              refine AllReadyH.cons rfl (fun K hK => ?_) (AllReadyH.nil)
              go_simp
              refine hK.out _ _ ?_ (fun hHeld => ?_)
              · exact HS9.out.smallc
              clear hK K
              try simp only [Act.put, List.setIfInBounds_toArray, List.set_cons_zero, List.set_cons_succ, List.getElem_toArray, List.getElem_cons_zero, List.getElem_cons_succ]
              clear n0 n1 n2 n3 n4 n5 n6 n7 n8 nf
              obtain ⟨v9, hv9⟩ : ∃ v9, storeI v5 ga (.int .i64 m.en) (.int .i64 m.tm) (.int .i64 m.tr) (.int .i64 m.bm) (.int .i64 m.br) (.slice A3.sa m.sats.length A3.sc) (.slice A3.ca m.cus.length A3.cc) (.slice A3.ka m.cost.length A3.kc) (.slice A3.ta m.time.length A3.tc) = v9 := ⟨_, rfl⟩
              rw [hv9] at PS QS HS9 OS RS
              unfold storeI at hv9
              rw [hv9] at hHeld ⊢
              clear hv9
              obtain ⟨n0, n1, n2, n3, n4, n5, n6, n7, n8, nf⟩ := cells9 QS.out
              have QT := Lib.hid (storeI_blk (y0 := .int .i64 m.en) (y1 := .int .i64 m.tm) (y2 := .int .i64 m.tr) (y3 := .int .i64 m.bm) (y4 := .int .i64 m.br) (y5 := .slice A4.sa m.sats.length A4.sc) (y6 := .slice A4.ca m.cus.length A4.cc) (y7 := .slice A4.ka m.cost.length A4.kc) (y8 := .slice A4.ta m.time.length A4.tc) QS.out)
              have PT := Lib.hid ((storeI_other (y0 := .int .i64 m.en) (y1 := .int .i64 m.tm) (y2 := .int .i64 m.tr) (y3 := .int .i64 m.bm) (y4 := .int .i64 m.br) (y5 := .slice A4.sa m.sats.length A4.sc) (y6 := .slice A4.ca m.cus.length A4.cc) (y7 := .slice A4.ka m.cost.length A4.kc) (y8 := .slice A4.ta m.time.length A4.tc) HNE.out).trans PS.out)
              have HT9 := Lib.hid (HS9.out.mod (below_storeI (wr := v9) (y0 := .int .i64 m.en) (y1 := .int .i64 m.tm) (y2 := .int .i64 m.tr) (y3 := .int .i64 m.bm) (y4 := .int .i64 m.br) (y5 := .slice A4.sa m.sats.length A4.sc) (y6 := .slice A4.ca m.cus.length A4.cc) (y7 := .slice A4.ka m.cost.length A4.kc) (y8 := .slice A4.ta m.time.length A4.tc) HGgb.out))
              have OT := Lib.hid (OS.out.storeI_ (y0 := .int .i64 m.en) (y1 := .int .i64 m.tm) (y2 := .int .i64 m.tr) (y3 := .int .i64 m.bm) (y4 := .int .i64 m.br) (y5 := .slice A4.sa m.sats.length A4.sc) (y6 := .slice A4.ca m.cus.length A4.cc) (y7 := .slice A4.ka m.cost.length A4.kc) (y8 := .slice A4.ta m.time.length A4.tc) QS.out)
              have RT := Lib.hid (RS.out.storeI_ (y0 := .int .i64 m.en) (y1 := .int .i64 m.tm) (y2 := .int .i64 m.tr) (y3 := .int .i64 m.bm) (y4 := .int .i64 m.br) (y5 := .slice A4.sa m.sats.length A4.sc) (y6 := .slice A4.ca m.cus.length A4.cc) (y7 := .slice A4.ka m.cost.length A4.kc) (y8 := .slice A4.ta m.time.length A4.tc) QS.out)
              refine wpAnyH_ready (rs := [7]) (by kernel_rfl) (by simp) ?_
              refine AllReadyH.cons rfl (fun K hK => ?_) (AllReadyH.nil)
              go_simp
              refine hK.out _ _ ?_ (fun hHeld => ?_)
              · exact HT9.out.smallc
              clear hK K
              try simp only [Act.put, List.setIfInBounds_toArray, List.set_cons_zero, List.set_cons_succ, List.getElem_toArray, List.getElem_cons_zero, List.getElem_cons_succ]
              refine wpAnyH_done (by kernel_rfl) ?_ _
              clear hHeld n0 n1 n2 n3 n4 n5 n6 n7 n8 nf
              go_wp2_with fail
              go_meet
              exact ⟨ga, gb, D0, A3, A4, _, C4, D4, VK4, VT4, _, _, rfl, rfl, ⟨HT9.out, PT.out, OT.out, HGga.out, HDG.out⟩, ⟨QT.out, RT.out, hn1, hn2.2, hn4.2⟩, HNE.out, HGgb.out, HBD.out⟩
          · go_simp
            have hb := below1 v2 (.cells #[.int .i64 0, .int .i64 0, .int .i64 0, .int .i64 0, .int .i64 0, .slice none 0 0, .slice none 0 0, .slice none 0 0, .slice none 0 0] 28)
            have H3 := Lib.hid (H2.out.later hb)
            have Q3 := Lib.hid (heap_alloc_new v2 (.cells #[.int .i64 0, .int .i64 0, .int .i64 0, .int .i64 0, .int .i64 0, .slice none 0 0, .slice none 0 0, .slice none 0 0, .slice none 0 0] 28))
            have O3 := Lib.hid (O2.out.later hb)
            have E3 := Lib.hid (Nat.le_trans E2.out hb.size)
            refine hK.out _ _ ?_ (fun hHeld => ?_)
            · exact H3.out.smallc
            clear hK K
            try simp only [Act.put, List.setIfInBounds_toArray, List.set_cons_zero, List.set_cons_succ, List.getElem_toArray, List.getElem_cons_zero, List.getElem_cons_succ]
            obtain ⟨gb, hgb⟩ : ∃ g, v2.heap.size = g := ⟨_, rfl⟩
            have HGgb : Hid (w.heap.size + 3 ≤ gb) := Lib.hid (by rw [← hgb]; exact H2.out.lt)
            obtain ⟨v3, hv3⟩ : ∃ W9, World.alloc v2 (.cells #[.int .i64 0, .int .i64 0, .int .i64 0, .int .i64 0, .int .i64 0, .slice none 0 0, .slice none 0 0, .slice none 0 0, .slice none 0 0] 28) = W9 := ⟨_, rfl⟩
            rw [hv3] at hHeld H3 Q3 O3 E3 ⊢
            rw [hgb] at Q3 ⊢
            clear hgb hv3 hb
            refine wpAnyH_ready (rs := [3, 4]) (by kernel_rfl) (by simp) ?_
            refine AllReadyH.cons rfl (fun K hK => ?_) (AllReadyH.cons rfl (fun K hK => ?_) (AllReadyH.nil))
            · go_simp
              refine (HMK.out _ (H3.out.here HSM.out)).mono ?_
              rintro e v4 ⟨⟨A4, rfl, C4, D4, VK4, VT4, hown⟩, hb⟩
              have R4 := Lib.hid hown
              have HBD : Hid (D0 ≤ v3.heap.size + 3) := Lib.hid (by have := E3.out; omega)
              have H4 := Lib.hid (H3.out.later hb)
              have Q4 := Lib.hid ((hb.block _ (Array.getElem?_eq_some_iff.1 Q3.out).1).trans Q3.out)
              have O4 := Lib.hid (O3.out.later hb)
              have E4 := Lib.hid (Nat.le_trans E3.out hb.size)
              clear hown hb
              refine hK.out _ _ ?_ (fun hHeld => ?_)
              · exact H4.out.smallc
              clear hK K
              try simp only [Act.put, List.setIfInBounds_toArray, List.set_cons_zero, List.set_cons_succ, List.getElem_toArray, List.getElem_cons_zero, List.getElem_cons_succ]
              refine wpAnyH_ready (rs := [4]) (by kernel_rfl) (by simp) ?_
              refine AllReadyH.cons rfl (fun K hK => ?_) (AllReadyH.nil)
              go_simp
              have hb := below1 v4 (.cells #[.int .i64 0, .int .i64 0, .int .i64 0, .int .i64 0, .int .i64 0, .slice none 0 0, .slice none 0 0, .slice none 0 0, .slice none 0 0] 28)
              have H5 := Lib.hid (H4.out.later hb)
              have P5 := Lib.hid (heap_alloc_new v4 (.cells #[.int .i64 0, .int .i64 0, .int .i64 0, .int .i64 0, .int .i64 0, .slice none 0 0, .slice none 0 0, .slice none 0 0, .slice none 0 0] 28))
              have Q5 := Lib.hid ((hb.block _ (Array.getElem?_eq_some_iff.1 Q4.out).1).trans Q4.out)
              have O5 := Lib.hid (O4.out.later hb)
              have E5 := Lib.hid (Nat.le_trans E4.out hb.size)
              have R5 := Lib.hid (R4.out.later hb)
              refine hK.out _ _ ?_ (fun hHeld => ?_)
              · exact H5.out.smallc
              clear hK K
              try simp only [Act.put, List.setIfInBounds_toArray, List.set_cons_zero, List.set_cons_succ, List.getElem_toArray, List.getElem_cons_zero, List.getElem_cons_succ]
              obtain ⟨ga, hga⟩ : ∃ g, v4.heap.size = g := ⟨_, rfl⟩
              have HGga : Hid (w.heap.size + 3 ≤ ga) := Lib.hid (by rw [← hga]; exact H4.out.lt)
              have HNE : Hid (ga ≠ gb) := Lib.hid (by have := (Array.getElem?_eq_some_iff.1 Q4.out).1; omega)
              obtain ⟨v5, hv5⟩ : ∃ W9, World.alloc v4 (.cells #[.int .i64 0, .int .i64 0, .int .i64 0, .int .i64 0, .int .i64 0, .slice none 0 0, .slice none 0 0, .slice none 0 0, .slice none 0 0] 28) = W9 := ⟨_, rfl⟩
              rw [hv5] at hHeld H5 P5 Q5 O5 E5 R5 ⊢
              rw [hga] at P5 ⊢
              clear hga hv5 hb
              obtain ⟨n0, n1, n2, n3, n4, n5, n6, n7, n8, nf⟩ := cells9 P5.out
              have PS := Lib.hid (storeI_blk (y0 := .int .i64 m.en) (y1 := .int .i64 m.tm) (y2 := .int .i64 m.tr) (y3 := .int .i64 m.bm) (y4 := .int .i64 m.br) (y5 := .slice A3.sa m.sats.length A3.sc) (y6 := .slice A3.ca m.cus.length A3.cc) (y7 := .slice A3.ka m.cost.length A3.kc) (y8 := .slice A3.ta m.time.length A3.tc) P5.out)
              have QS := Lib.hid ((storeI_other (y0 := .int .i64 m.en) (y1 := .int .i64 m.tm) (y2 := .int .i64 m.tr) (y3 := .int .i64 m.bm) (y4 := .int .i64 m.br) (y5 := .slice A3.sa m.sats.length A3.sc) (y6 := .slice A3.ca m.cus.length A3.cc) (y7 := .slice A3.ka m.cost.length A3.kc) (y8 := .slice A3.ta m.time.length A3.tc) (Ne.symm HNE.out)).trans Q5.out)
              have HS9 := Lib.hid (H5.out.mod (below_storeI (wr := v5) (y0 := .int .i64 m.en) (y1 := .int .i64 m.tm) (y2 := .int .i64 m.tr) (y3 := .int .i64 m.bm) (y4 := .int .i64 m.br) (y5 := .slice A3.sa m.sats.length A3.sc) (y6 := .slice A3.ca m.cus.length A3.cc) (y7 := .slice A3.ka m.cost.length A3.kc) (y8 := .slice A3.ta m.time.length A3.tc) HGga.out))
              have OS := Lib.hid (O5.out.storeI_ (y0 := .int .i64 m.en) (y1 := .int .i64 m.tm) (y2 := .int .i64 m.tr) (y3 := .int .i64 m.bm) (y4 := .int .i64 m.br) (y5 := .slice A3.sa m.sats.length A3.sc) (y6 := .slice A3.ca m.cus.length A3.cc) (y7 := .slice A3.ka m.cost.length A3.kc) (y8 := .slice A3.ta m.time.length A3.tc) P5.out)
              have RS := Lib.hid (R5.out.storeI_ (y0 := .int .i64 m.en) (y1 := .int .i64 m.tm) (y2 := .int .i64 m.tr) (y3 := .int .i64 m.bm) (y4 := .int .i64 m.br) (y5 := .slice A3.sa m.sats.length A3.sc) (y6 := .slice A3.ca m.cus.length A3.cc) (y7 := .slice A3.ka m.cost.length A3.kc) (y8 := .slice A3.ta m.time.length A3.tc) P5.out)
              refine wpAnyH_ready (rs := [6]) (by kernel_rfl) (by simp) ?_
              refine AllReadyH.cons rfl (fun K hK => ?_) (AllReadyH.nil)
              go_simp
              refine hK.out _ _ ?_ (fun hHeld => ?_)
              · exact HS9.out.smallc
              clear hK K
              try simp only [Act.put, List.setIfInBounds_toArray, List.set_cons_zero, List.set_cons_succ, List.getElem_toArray, List.getElem_cons_zero, List.getElem_cons_succ]
              clear n0 n1 n2 n3 n4 n5 n6 n7 n8 nf
              obtain ⟨v9, hv9⟩ : ∃ v9, storeI v5 ga (.int .i64 m.en) (.int .i64 m.tm) (.int .i64 m.tr) (.int .i64 m.bm) (.int .i64 m.br) (.slice A3.sa m.sats.length A3.sc) (.slice A3.ca m.cus.length A3.cc) (.slice A3.ka m.cost.length A3.kc) (.slice A3.ta m.time.length A3.tc) = v9 := ⟨_, rfl⟩
              rw [hv9] at PS QS HS9 OS RS
              unfold storeI at hv9
              rw [hv9] at hHeld ⊢
              clear hv9
              obtain ⟨n0, n1, n2, n3, n4, n5, n6, n7, n8, nf⟩ := cells9 QS.out
              have QT := Lib.hid (storeI_blk (y0 := .int .i64 m.en) (y1 := .int .i64 m.tm) (y2 := .int .i64 m.tr) (y3 := .int .i64 m.bm) (y4 := .int .i64 m.br) (y5 := .slice A4.sa m.sats.length A4.sc) (y6 := .slice A4.ca m.cus.length A4.cc) (y7 := .slice A4.ka m.cost.length A4.kc) (y8 := .slice A4.ta m.time.length A4.tc) QS.out)
              have PT := Lib.hid ((storeI_other (y0 := .int .i64 m.en) (y1 := .int .i64 m.tm) (y2 := .int .i64 m.tr) (y3 := .int .i64 m.bm) (y4 := .int .i64 m.br) (y5 := .slice A4.sa m.sats.length A4.sc) (y6 := .slice A4.ca m.cus.length A4.cc) (y7 := .slice A4.ka m.cost.length A4.kc) (y8 := .slice A4.ta m.time.length A4.tc) HNE.out).trans PS.out)
              have HT9 := Lib.hid (HS9.out.mod (below_storeI (wr := v9) (y0 := .int .i64 m.en) (y1 := .int .i64 m.tm) (y2 := .int .i64 m.tr) (y3 := .int .i64 m.bm) (y4 := .int .i64 m.br) (y5 := .slice A4.sa m.sats.length A4.sc) (y6 := .slice A4.ca m.cus.length A4.cc) (y7 := .slice A4.ka m.cost.length A4.kc) (y8 := .slice A4.ta m.time.length A4.tc) HGgb.out))
              have OT := Lib.hid (OS.out.storeI_ (y0 := .int .i64 m.en) (y1 := .int .i64 m.tm) (y2 := .int .i64 m.tr) (y3 := .int .i64 m.bm) (y4 := .int .i64 m.br) (y5 := .slice A4.sa m.sats.length A4.sc) (y6 := .slice A4.ca m.cus.length A4.cc) (y7 := .slice A4.ka m.cost.length A4.kc) (y8 := .slice A4.ta m.time.length A4.tc) QS.out)
              have RT := Lib.hid (RS.out.storeI_ (y0 := .int .i64 m.en) (y1 := .int .i64 m.tm) (y2 := .int .i64 m.tr) (y3 := .int .i64 m.bm) (y4 := .int .i64 m.br) (y5 := .slice A4.sa m.sats.length A4.sc) (y6 := .slice A4.ca m.cus.length A4.cc) (y7 := .slice A4.ka m.cost.length A4.kc) (y8 := .slice A4.ta m.time.length A4.tc) QS.out)
              refine wpAnyH_ready (rs := [7]) (by kernel_rfl) (by simp) ?_
              refine AllReadyH.cons rfl (fun K hK => ?_) (AllReadyH.nil)
              go_simp
              refine hK.out _ _ ?_ (fun hHeld => ?_)
              · exact HT9.out.smallc
              clear hK K
              try simp only [Act.put, List.setIfInBounds_toArray, List.set_cons_zero, List.set_cons_succ, List.getElem_toArray, List.getElem_cons_zero, List.getElem_cons_succ]
              refine wpAnyH_done (by kernel_rfl) ?_ _
              clear hHeld n0 n1 n2 n3 n4 n5 n6 n7 n8 nf
              go_wp2_with fail
              go_meet
              exact ⟨ga, gb, D0, A3, A4, _, C4, D4, VK4, VT4, _, _, rfl, rfl, ⟨HT9.out, PT.out, OT.out, HGga.out, HDG.out⟩, ⟨QT.out, RT.out, hn1, hn2.2, hn4.2⟩, HNE.out, HGgb.out, HBD.out⟩
            · go_simp
              have hb := below1 v3 (.cells #[.int .i64 0, .int .i64 0, .int .i64 0, .int .i64 0, .int .i64 0, .slice none 0 0, .slice none 0 0, .slice none 0 0, .slice none 0 0] 28)
              have H4 := Lib.hid (H3.out.later hb)
              have P4 := Lib.hid (heap_alloc_new v3 (.cells #[.int .i64 0, .int .i64 0, .int .i64 0, .int .i64 0, .int .i64 0, .slice none 0 0, .slice none 0 0, .slice none 0 0, .slice none 0 0] 28))
              have Q4 := Lib.hid ((hb.block _ (Array.getElem?_eq_some_iff.1 Q3.out).1).trans Q3.out)
              have O4 := Lib.hid (O3.out.later hb)
              have E4 := Lib.hid (Nat.le_trans E3.out hb.size)
              refine hK.out _ _ ?_ (fun hHeld => ?_)
              · exact H4.out.smallc
              clear hK K
              try simp only [Act.put, List.setIfInBounds_toArray, List.set_cons_zero, List.set_cons_succ, List.getElem_toArray, List.getElem_cons_zero, List.getElem_cons_succ]
              obtain ⟨ga, hga⟩ : ∃ g, v3.heap.size = g := ⟨_, rfl⟩
              have HGga : Hid (w.heap.size + 3 ≤ ga) := Lib.hid (by rw [← hga]; exact H3.out.lt)
              have HNE : Hid (ga ≠ gb) := Lib.hid (by have := (Array.getElem?_eq_some_iff.1 Q3.out).1; omega)
              obtain ⟨v4, hv4⟩ : ∃ W9, World.alloc v3 (.cells #[.int .i64 0, .int .i64 0, .int .i64 0, .int .i64 0, .int .i64 0, .slice none 0 0, .slice none 0 0, .slice none 0 0, .slice none 0 0] 28) = W9 := ⟨_, rfl⟩
              rw [hv4] at hHeld H4 P4 Q4 O4 E4 ⊢
              rw [hga] at P4 ⊢
              clear hga hv4 hb
              refine wpAnyH_ready (rs := [3]) (by kernel_rfl) (by simp) ?_
              refine AllReadyH.cons rfl (fun K hK => ?_) (AllReadyH.nil)
              go_simp
              refine (HMK.out _ (H4.out.here HSM.out)).mono ?_
              rintro e v5 ⟨⟨A4, rfl, C4, D4, VK4, VT4, hown⟩, hb⟩
              have R5 := Lib.hid hown
              have HBD : Hid (D0 ≤ v4.heap.size + 3) := Lib.hid (by have := E4.out; omega)
              have H5 := Lib.hid (H4.out.later hb)
              have P5 := Lib.hid ((hb.block _ (Array.getElem?_eq_some_iff.1 P4.out).1).trans P4.out)
              have Q5 := Lib.hid ((hb.block _ (Array.getElem?_eq_some_iff.1 Q4.out).1).trans Q4.out)
              have O5 := Lib.hid (O4.out.later hb)
              have E5 := Lib.hid (Nat.le_trans E4.out hb.size)
              clear hown hb
              refine hK.out _ _ ?_ (fun hHeld => ?_)
              · exact H5.out.smallc
              clear hK K
              try simp only [Act.put, List.setIfInBounds_toArray, List.set_cons_zero, List.set_cons_succ, List.getElem_toArray, List.getElem_cons_zero, List.getElem_cons_succ]
              obtain ⟨n0, n1, n2, n3, n4, n5, n6, n7, n8, nf⟩ := cells9 P5.out
              have PS := Lib.hid (storeI_blk (y0 := .int .i64 m.en) (y1 := .int .i64 m.tm) (y2 := .int .i64 m.tr) (y3 := .int .i64 m.bm) (y4 := .int .i64 m.br) (y5 := .slice A3.sa m.sats.length A3.sc) (y6 := .slice A3.ca m.cus.length A3.cc) (y7 := .slice A3.ka m.cost.length A3.kc) (y8 := .slice A3.ta m.time.length A3.tc) P5.out)
              have QS := Lib.hid ((storeI_other (y0 := .int .i64 m.en) (y1 := .int .i64 m.tm) (y2 := .int .i64 m.tr) (y3 := .int .i64 m.bm) (y4 := .int .i64 m.br) (y5 := .slice A3.sa m.sats.length A3.sc) (y6 := .slice A3.ca m.cus.length A3.cc) (y7 := .slice A3.ka m.cost.length A3.kc) (y8 := .slice A3.ta m.time.length A3.tc) (Ne.symm HNE.out)).trans Q5.out)
              have HS9 := Lib.hid (H5.out.mod (below_storeI (wr := v5) (y0 := .int .i64 m.en) (y1 := .int .i64 m.tm) (y2 := .int .i64 m.tr) (y3 := .int .i64 m.bm) (y4 := .int .i64 m.br) (y5 := .slice A3.sa m.sats.length A3.sc) (y6 := .slice A3.ca m.cus.length A3.cc) (y7 := .slice A3.ka m.cost.length A3.kc) (y8 := .slice A3.ta m.time.length A3.tc) HGga.out))
              have OS := Lib.hid (O5.out.storeI_ (y0 := .int .i64 m.en) (y1 := .int .i64 m.tm) (y2 := .int .i64 m.tr) (y3 := .int .i64 m.bm) (y4 := .int .i64 m.br) (y5 := .slice A3.sa m.sats.length A3.sc) (y6 := .slice A3.ca m.cus.length A3.cc) (y7 := .slice A3.ka m.cost.length A3.kc) (y8 := .slice A3.ta m.time.length A3.tc) P5.out)
              have RS := Lib.hid (R5.out.storeI_ (y0 := .int .i64 m.en) (y1 := .int .i64 m.tm) (y2 := .int .i64 m.tr) (y3 := .int .i64 m.bm) (y4 := .int .i64 m.br) (y5 := .slice A3.sa m.sats.length A3.sc) (y6 := .slice A3.ca m.cus.length A3.cc) (y7 := .slice A3.ka m.cost.length A3.kc) (y8 := .slice A3.ta m.time.length A3.tc) P5.out)
              refine wpAnyH_ready (rs := [6]) (by kernel_rfl) (by simp) ?_
              refine AllReadyH.cons rfl (fun K hK => ?_) (AllReadyH.nil)
              go_simp
              refine hK.out _ _ ?_ (fun hHeld => ?_)
              · exact HS9.out.smallc
              clear hK K
              try simp only [Act.put, List.setIfInBounds_toArray, List.set_cons_zero, List.set_cons_succ, List.getElem_toArray, List.getElem_cons_zero, List.getElem_cons_succ]
              clear n0 n1 n2 n3 n4 n5 n6 n7 n8 nf
              obtain ⟨v9, hv9⟩ : ∃ v9, storeI v5 ga (.int .i64 m.en) (.int .i64 m.tm) (.int .i64 m.tr) (.int .i64 m.bm) (.int .i64 m.br) (.slice A3.sa m.sats.length A3.sc) (.slice A3.ca m.cus.length A3.cc) (.slice A3.ka m.cost.length A3.kc) (.slice A3.ta m.time.length A3.tc) = v9 := ⟨_, rfl⟩
              rw [hv9] at PS QS HS9 OS RS
              unfold storeI at hv9
              rw [hv9] at hHeld ⊢
              clear hv9
              obtain ⟨n0, n1, n2, n3, n4, n5, n6, n7, n8, nf⟩ := cells9 QS.out
              have QT := Lib.hid (storeI_blk (y0 := .int .i64 m.en) (y1 := .int .i64 m.tm) (y2 := .int .i64 m.tr) (y3 := .int .i64 m.bm) (y4 := .int .i64 m.br) (y5 := .slice A4.sa m.sats.length A4.sc) (y6 := .slice A4.ca m.cus.length A4.cc) (y7 := .slice A4.ka m.cost.length A4.kc) (y8 := .slice A4.ta m.time.length A4.tc) QS.out)
              have PT := Lib.hid ((storeI_other (y0 := .int .i64 m.en) (y1 := .int .i64 m.tm) (y2 := .int .i64 m.tr) (y3 := .int .i64 m.bm) (y4 := .int .i64 m.br) (y5 := .slice A4.sa m.sats.length A4.sc) (y6 := .slice A4.ca m.cus.length A4.cc) (y7 := .slice A4.ka m.cost.length A4.kc) (y8 := .slice A4.ta m.time.length A4.tc) HNE.out).trans PS.out)
              have HT9 := Lib.hid (HS9.out.mod (below_storeI (wr := v9) (y0 := .int .i64 m.en) (y1 := .int .i64 m.tm) (y2 := .int .i64 m.tr) (y3 := .int .i64 m.bm) (y4 := .int .i64 m.br) (y5 := .slice A4.sa m.sats.length A4.sc) (y6 := .slice A4.ca m.cus.length A4.cc) (y7 := .slice A4.ka m.cost.length A4.kc) (y8 := .slice A4.ta m.time.length A4.tc) HGgb.out))
              have OT := Lib.hid (OS.out.storeI_ (y0 := .int .i64 m.en) (y1 := .int .i64 m.tm) (y2 := .int .i64 m.tr) (y3 := .int .i64 m.bm) (y4 := .int .i64 m.br) (y5 := .slice A4.sa m.sats.length A4.sc) (y6 := .slice A4.ca m.cus.length A4.cc) (y7 := .slice A4.ka m.cost.length A4.kc) (y8 := .slice A4.ta m.time.length A4.tc) QS.out)
              have RT := Lib.hid (RS.out.storeI_ (y0 := .int .i64 m.en) (y1 := .int .i64 m.tm) (y2 := .int .i64 m.tr) (y3 := .int .i64 m.bm) (y4 := .int .i64 m.br) (y5 := .slice A4.sa m.sats.length A4.sc) (y6 := .slice A4.ca m.cus.length A4.cc) (y7 := .slice A4.ka m.cost.length A4.kc) (y8 := .slice A4.ta m.time.length A4.tc) QS.out)
              refine wpAnyH_ready (rs := [7]) (by kernel_rfl) (by simp) ?_
              refine AllReadyH.cons rfl (fun K hK => ?_) (AllReadyH.nil)
              go_simp
              refine hK.out _ _ ?_ (fun hHeld => ?_)
              · exact HT9.out.smallc
              clear hK K
              try simp only [Act.put, List.setIfInBounds_toArray, List.set_cons_zero, List.set_cons_succ, List.getElem_toArray, List.getElem_cons_zero, List.getElem_cons_succ]
              refine wpAnyH_done (by kernel_rfl) ?_ _
              clear hHeld n0 n1 n2 n3 n4 n5 n6 n7 n8 nf
              go_wp2_with fail
              go_meet
              exact ⟨ga, gb, D0, A3, A4, _, C4, D4, VK4, VT4, _, _, rfl, rfl, ⟨HT9.out, PT.out, OT.out, HGga.out, HDG.out⟩, ⟨QT.out, RT.out, hn1, hn2.2, hn4.2⟩, HNE.out, HGgb.out, HBD.out⟩
        · go_simp
          have hb := below1 v1 (.cells #[.int .i64 0, .int .i64 0, .int .i64 0, .int .i64 0, .int .i64 0, .slice none 0 0, .slice none 0 0, .slice none 0 0, .slice none 0 0] 28)
          have H2 := Lib.hid (H1.out.later hb)
          have P2 := Lib.hid (heap_alloc_new v1 (.cells #[.int .i64 0, .int .i64 0, .int .i64 0, .int .i64 0, .int .i64 0, .slice none 0 0, .slice none 0 0, .slice none 0 0, .slice none 0 0] 28))
          refine hK.out _ _ ?_ (fun hHeld => ?_)
          · exact H2.out.smallc
          clear hK K
          try simp only [Act.put, List.setIfInBounds_toArray, List.set_cons_zero, List.set_cons_succ, List.getElem_toArray, List.getElem_cons_zero, List.getElem_cons_succ]
          obtain ⟨ga, hga⟩ : ∃ g, v1.heap.size = g := ⟨_, rfl⟩
          have HGga : Hid (w.heap.size + 3 ≤ ga) := Lib.hid (by rw [← hga]; exact H1.out.lt)
          obtain ⟨v2, hv2⟩ : ∃ W9, World.alloc v1 (.cells #[.int .i64 0, .int .i64 0, .int .i64 0, .int .i64 0, .int .i64 0, .slice none 0 0, .slice none 0 0, .slice none 0 0, .slice none 0 0] 28) = W9 := ⟨_, rfl⟩
          rw [hv2] at hHeld H2 P2 ⊢
          rw [hga] at P2 ⊢
          clear hga hv2 hb
          refine wpAnyH_ready (rs := [1, 5]) (by kernel_rfl) (by simp) ?_
          refine AllReadyH.cons rfl (fun K hK => ?_) (AllReadyH.cons rfl (fun K hK => ?_) (AllReadyH.nil))
          · go_simp
            refine (HMK.out _ (H2.out.here HSM.out)).mono ?_
            rintro e v3 ⟨⟨A3, rfl, C3, D3, VK3, VT3, hown⟩, hb⟩
            have O3 := Lib.hid (AOwn.make hown)
            obtain ⟨D0, hD0⟩ : ∃ D0, v3.heap.size = D0 := ⟨_, rfl⟩
            have E3 : Hid (D0 ≤ v3.heap.size) := Lib.hid (by rw [hD0]; exact Nat.le_refl _)
            rw [hD0] at O3
            have H3 := Lib.hid (H2.out.later hb)
            have P3 := Lib.hid ((hb.block _ (Array.getElem?_eq_some_iff.1 P2.out).1).trans P2.out)
            have HDG : Hid (w.heap.size + 3 ≤ D0) := Lib.hid (by rw [← hD0]; exact H3.out.lt)
            clear hD0
            clear hown hb
            refine hK.out _ _ ?_ (fun hHeld => ?_)
            · exact H3.out.smallc
            clear hK K
            try simp only [Act.put, List.setIfInBounds_toArray, List.set_cons_zero, List.set_cons_succ, List.getElem_toArray, List.getElem_cons_zero, List.getElem_cons_succ]
            refine wpAnyH_ready (rs := [3, 5]) (by kernel_rfl) (by simp) ?_
            refine AllReadyH.cons rfl (fun K hK => ?_) (AllReadyH.cons rfl (fun K hK => ?_) (AllReadyH.nil))
            · go_simp
              refine (HMK.out _ (H3.out.here HSM.out)).mono ?_
              rintro e v4 ⟨⟨A4, rfl, C4, D4, VK4, VT4, hown⟩, hb⟩
              have R4 := Lib.hid hown
              have HBD : Hid (D0 ≤ v3.heap.size + 3) := Lib.hid (by have := E3.out; omega)
              have H4 := Lib.hid (H3.out.later hb)
              have P4 := Lib.hid ((hb.block _ (Array.getElem?_eq_some_iff.1 P3.out).1).trans P3.out)
              have O4 := Lib.hid (O3.out.later hb)
              have E4 := Lib.hid (Nat.le_trans E3.out hb.size)
              clear hown hb
              refine hK.out _ _ ?_ (fun hHeld => ?_)
              · exact H4.out.smallc
              clear hK K
              try simp only [Act.put, List.setIfInBounds_toArray, List.set_cons_zero, List.set_cons_succ, List.getElem_toArray, List.getElem_cons_zero, List.getElem_cons_succ]
              refine wpAnyH_ready (rs := [5]) (by kernel_rfl) (by simp) ?_
              refine AllReadyH.cons rfl (fun K hK => ?_) (AllReadyH.nil)
              go_simp
              have hb := below1 v4 (.cells #[.int .i64 0, .int .i64 0, .int .i64 0, .int .i64 0, .int .i64 0, .slice none 0 0, .slice none 0 0, .slice none 0 0, .slice none 0 0] 28)
              have H5 := Lib.hid (H4.out.later hb)
              have Q5 := Lib.hid (heap_alloc_new v4 (.cells #[.int .i64 0, .int .i64 0, .int .i64 0, .int .i64 0, .int .i64 0, .slice none 0 0, .slice none 0 0, .slice none 0 0, .slice none 0 0] 28))
              have P5 := Lib.hid ((hb.block _ (Array.getElem?_eq_some_iff.1 P4.out).1).trans P4.out)
              have O5 := Lib.hid (O4.out.later hb)
              have E5 := Lib.hid (Nat.le_trans E4.out hb.size)
              have R5 := Lib.hid (R4.out.later hb)
              refine hK.out _ _ ?_ (fun hHeld => ?_)
              · exact H5.out.smallc
              clear hK K
              try simp only [Act.put, List.setIfInBounds_toArray, List.set_cons_zero, List.set_cons_succ, List.getElem_toArray, List.getElem_cons_zero, List.getElem_cons_succ]
              obtain ⟨gb, hgb⟩ : ∃ g, v4.heap.size = g := ⟨_, rfl⟩
              have HGgb : Hid (w.heap.size + 3 ≤ gb) := Lib.hid (by rw [← hgb]; exact H4.out.lt)
              have HNE : Hid (ga ≠ gb) := Lib.hid (by have := (Array.getElem?_eq_some_iff.1 P4.out).1; omega)
              obtain ⟨v5, hv5⟩ : ∃ W9, World.alloc v4 (.cells #[.int .i64 0, .int .i64 0, .int .i64 0, .int .i64 0, .int .i64 0, .slice none 0 0, .slice none 0 0, .slice none 0 0, .slice none 0 0] 28) = W9 := ⟨_, rfl⟩
              rw [hv5] at hHeld H5 Q5 P5 O5 E5 R5 ⊢
              rw [hgb] at Q5 ⊢
              clear hgb hv5 hb
              obtain ⟨n0, n1, n2, n3, n4, n5, n6, n7, n8, nf⟩ := cells9 P5.out
              have PS := Lib.hid (storeI_blk (y0 := .int .i64 m.en) (y1 := .int .i64 m.tm) (y2 := .int .i64 m.tr) (y3 := .int .i64 m.bm) (y4 := .int .i64 m.br) (y5 := .slice A3.sa m.sats.length A3.sc) (y6 := .slice A3.ca m.cus.length A3.cc) (y7 := .slice A3.ka m.cost.length A3.kc) (y8 := .slice A3.ta m.time.length A3.tc) P5.out)
              have QS := Lib.hid ((storeI_other (y0 := .int .i64 m.en) (y1 := .int .i64 m.tm) (y2 := .int .i64 m.tr) (y3 := .int .i64 m.bm) (y4 := .int .i64 m.br) (y5 := .slice A3.sa m.sats.length A3.sc) (y6 := .slice A3.ca m.cus.length A3.cc) (y7 := .slice A3.ka m.cost.length A3.kc) (y8 := .slice A3.ta m.time.length A3.tc) (Ne.symm HNE.out)).trans Q5.out)
              have HS9 := Lib.hid (H5.out.mod (below_storeI (wr := v5) (y0 := .int .i64 m.en) (y1 := .int .i64 m.tm) (y2 := .int .i64 m.tr) (y3 := .int .i64 m.bm) (y4 := .int .i64 m.br) (y5 := .slice A3.sa m.sats.length A3.sc) (y6 := .slice A3.ca m.cus.length A3.cc) (y7 := .slice A3.ka m.cost.length A3.kc) (y8 := .slice A3.ta m.time.length A3.tc) HGga.out))
              have OS := Lib.hid (O5.out.storeI_ (y0 := .int .i64 m.en) (y1 := .int .i64 m.tm) (y2 := .int .i64 m.tr) (y3 := .int .i64 m.bm) (y4 := .int .i64 m.br) (y5 := .slice A3.sa m.sats.length A3.sc) (y6 := .slice A3.ca m.cus.length A3.cc) (y7 := .slice A3.ka m.cost.length A3.kc) (y8 := .slice A3.ta m.time.length A3.tc) P5.out)
              have RS := Lib.hid (R5.out.storeI_ (y0 := .int .i64 m.en) (y1 := .int .i64 m.tm) (y2 := .int .i64 m.tr) (y3 := .int .i64 m.bm) (y4 := .int .i64 m.br) (y5 := .slice A3.sa m.sats.length A3.sc) (y6 := .slice A3.ca m.cus.length A3.cc) (y7 := .slice A3.ka m.cost.length A3.kc) (y8 := .slice A3.ta m.time.length A3.tc) P5.out)
              refine wpAnyH_ready (rs := [6]) (by kernel_rfl) (by simp) ?_
              refine AllReadyH.cons rfl (fun K hK => ?_) (AllReadyH.nil)
              go_simp
              refine hK.out _ _ ?_ (fun hHeld => ?_)
              · exact HS9.out.smallc
              clear hK K
              try simp only [Act.put, List.setIfInBounds_toArray, List.set_cons_zero, List.set_cons_succ, List.getElem_toArray, List.getElem_cons_zero, List.getElem_cons_succ]
              clear n0 n1 n2 n3 n4 n5 n6 n7 n8 nf
              obtain ⟨v9, hv9⟩ : ∃ v9, storeI v5 ga (.int .i64 m.en) (.int .i64 m.tm) (.int .i64 m.tr) (.int .i64 m.bm) (.int .i64 m.br) (.slice A3.sa m.sats.length A3.sc) (.slice A3.ca m.cus.length A3.cc) (.slice A3.ka m.cost.length A3.kc) (.slice A3.ta m.time.length A3.tc) = v9 := ⟨_, rfl⟩
              rw [hv9] at PS QS HS9 OS RS
              unfold storeI at hv9
              rw [hv9] at hHeld ⊢
              clear hv9
              obtain ⟨n0, n1, n2, n3, n4, n5, n6, n7, n8, nf⟩ := cells9 QS.out
              have QT := Lib.hid (storeI_blk (y0 := .int .i64 m.en) (y1 := .int .i64 m.tm) (y2 := .int .i64 m.tr) (y3 := .int .i64 m.bm) (y4 := .int .i64 m.br) (y5 := .slice A4.sa m.sats.length A4.sc) (y6 := .slice A4.ca m.cus.length A4.cc) (y7 := .slice A4.ka m.cost.length A4.kc) (y8 := .slice A4.ta m.time.length A4.tc) QS.out)
              have PT := Lib.hid ((storeI_other (y0 := .int .i64 m.en) (y1 := .int .i64 m.tm) (y2 := .int .i64 m.tr) (y3 := .int .i64 m.bm) (y4 := .int .i64 m.br) (y5 := .slice A4.sa m.sats.length A4.sc) (y6 := .slice A4.ca m.cus.length A4.cc) (y7 := .slice A4.ka m.cost.length A4.kc) (y8 := .slice A4.ta m.time.length A4.tc) HNE.out).trans PS.out)
              have HT9 := Lib.hid (HS9.out.mod (below_storeI (wr := v9) (y0 := .int .i64 m.en) (y1 := .int .i64 m.tm) (y2 := .int .i64 m.tr) (y3 := .int .i64 m.bm) (y4 := .int .i64 m.br) (y5 := .slice A4.sa m.sats.length A4.sc) (y6 := .slice A4.ca m.cus.length A4.cc) (y7 := .slice A4.ka m.cost.length A4.kc) (y8 := .slice A4.ta m.time.length A4.tc) HGgb.out))
              have OT := Lib.hid (OS.out.storeI_ (y0 := .int .i64 m.en) (y1 := .int .i64 m.tm) (y2 := .int .i64 m.tr) (y3 := .int .i64 m.bm) (y4 := .int .i64 m.br) (y5 := .slice A4.sa m.sats.length A4.sc) (y6 := .slice A4.ca m.cus.length A4.cc) (y7 := .slice A4.ka m.cost.length A4.kc) (y8 := .slice A4.ta m.time.length A4.tc) QS.out)
              have RT := Lib.hid (RS.out.storeI_ (y0 := .int .i64 m.en) (y1 := .int .i64 m.tm) (y2 := .int .i64 m.tr) (y3 := .int .i64 m.bm) (y4 := .int .i64 m.br) (y5 := .slice A4.sa m.sats.length A4.sc) (y6 := .slice A4.ca m.cus.length A4.cc) (y7 := .slice A4.ka m.cost.length A4.kc) (y8 := .slice A4.ta m.time.length A4.tc) QS.out)
              refine wpAnyH_ready (rs := [7]) (by kernel_rfl) (by simp) ?_
              refine AllReadyH.cons rfl (fun K hK => ?_) (AllReadyH.nil)
              go_simp
              refine hK.out _ _ ?_ (fun hHeld => ?_)
              · exact HT9.out.smallc
              clear hK K
              try simp only [Act.put, List.setIfInBounds_toArray, List.set_cons_zero, List.set_cons_succ, List.getElem_toArray, List.getElem_cons_zero, List.getElem_cons_succ]
              refine wpAnyH_done (by kernel_rfl) ?_ _
              clear hHeld n0 n1 n2 n3 n4 n5 n6 n7 n8 nf
              go_wp2_with fail
              go_meet
              exact ⟨ga, gb, D0, A3, A4, _, C4, D4, VK4, VT4, _, _, rfl, rfl, ⟨HT9.out, PT.out, OT.out, HGga.out, HDG.out⟩, ⟨QT.out, RT.out, hn1, hn2.2, hn4.2⟩, HNE.out, HGgb.out, HBD.out⟩
            · go_simp
              have hb := below1 v3 (.cells #[.int .i64 0, .int .i64 0, .int .i64 0, .int .i64 0, .int .i64 0, .slice none 0 0, .slice none 0 0, .slice none 0 0, .slice none 0 0] 28)
              have H4 := Lib.hid (H3.out.later hb)
              have Q4 := Lib.hid (heap_alloc_new v3 (.cells #[.int .i64 0, .int .i64 0, .int .i64 0, .int .i64 0, .int .i64 0, .slice none 0 0, .slice none 0 0, .slice none 0 0, .slice none 0 0] 28))
              have P4 := Lib.hid ((hb.block _ (Array.getElem?_eq_some_iff.1 P3.out).1).trans P3.out)
              have O4 := Lib.hid (O3.out.later hb)
              have E4 := Lib.hid (Nat.le_trans E3.out hb.size)
              refine hK.out _ _ ?_ (fun hHeld => ?_)
              · exact H4.out.smallc
              clear hK K
              try simp only [Act.put, List.setIfInBounds_toArray, List.set_cons_zero, List.set_cons_succ, List.getElem_toArray, List.getElem_cons_zero, List.getElem_cons_succ]
              obtain ⟨gb, hgb⟩ : ∃ g, v3.heap.size = g := ⟨_, rfl⟩
              have HGgb : Hid (w.heap.size + 3 ≤ gb) := Lib.hid (by rw [← hgb]; exact H3.out.lt)
              have HNE : Hid (ga ≠ gb) := Lib.hid (by have := (Array.getElem?_eq_some_iff.1 P3.out).1; omega)
              obtain ⟨v4, hv4⟩ : ∃ W9, World.alloc v3 (.cells #[.int .i64 0, .int .i64 0, .int .i64 0, .int .i64 0, .int .i64 0, .slice none 0 0, .slice none 0 0, .slice none 0 0, .slice none 0 0] 28) = W9 := ⟨_, rfl⟩
              rw [hv4] at hHeld H4 Q4 P4 O4 E4 ⊢
              rw [hgb] at Q4 ⊢
              clear hgb hv4 hb
              refine wpAnyH_ready (rs := [3]) (by kernel_rfl) (by simp) ?_
              refine AllReadyH.cons rfl (fun K hK => ?_) (AllReadyH.nil)
              go_simp
              refine (HMK.out _ (H4.out.here HSM.out)).mono ?_
              rintro e v5 ⟨⟨A4, rfl, C4, D4, VK4, VT4, hown⟩, hb⟩
              have R5 := Lib.hid hown
              have HBD : Hid (D0 ≤ v4.heap.size + 3) := Lib.hid (by have := E4.out; omega)
              have H5 := Lib.hid (H4.out.later hb)
              have P5 := Lib.hid ((hb.block _ (Array.getElem?_eq_some_iff.1 P4.out).1).trans P4.out)
              have Q5 := Lib.hid ((hb.block _ (Array.getElem?_eq_some_iff.1 Q4.out).1).trans Q4.out)
              have O5 := Lib.hid (O4.out.later hb)
              have E5 := Lib.hid (Nat.le_trans E4.out hb.size)
              clear hown hb
              refine hK.out _ _ ?_ (fun hHeld => ?_)
              · exact H5.out.smallc
              clear hK K
              try simp only [Act.put, List.setIfInBounds_toArray, List.set_cons_zero, List.set_cons_succ, List.getElem_toArray, List.getElem_cons_zero, List.getElem_cons_succ]
              obtain ⟨n0, n1, n2, n3, n4, n5, n6, n7, n8, nf⟩ := cells9 P5.out
              have PS := Lib.hid (storeI_blk (y0 := .int .i64 m.en) (y1 := .int .i64 m.tm) (y2 := .int .i64 m.tr) (y3 := .int .i64 m.bm) (y4 := .int .i64 m.br) (y5 := .slice A3.sa m.sats.length A3.sc) (y6 := .slice A3.ca m.cus.length A3.cc) (y7 := .slice A3.ka m.cost.length A3.kc) (y8 := .slice A3.ta m.time.length A3.tc) P5.out)
              have QS := Lib.hid ((storeI_other (y0 := .int .i64 m.en) (y1 := .int .i64 m.tm) (y2 := .int .i64 m.tr) (y3 := .int .i64 m.bm) (y4 := .int .i64 m.br) (y5 := .slice A3.sa m.sats.length A3.sc) (y6 := .slice A3.ca m.cus.length A3.cc) (y7 := .slice A3.ka m.cost.length A3.kc) (y8 := .slice A3.ta m.time.length A3.tc) (Ne.symm HNE.out)).trans Q5.out)
              have HS9 := Lib.hid (H5.out.mod (below_storeI (wr := v5) (y0 := .int .i64 m.en) (y1 := .int .i64 m.tm) (y2 := .int .i64 m.tr) (y3 := .int .i64 m.bm) (y4 := .int .i64 m.br) (y5 := .slice A3.sa m.sats.length A3.sc) (y6 := .slice A3.ca m.cus.length A3.cc) (y7 := .slice A3.ka m.cost.length A3.kc) (y8 := .slice A3.ta m.time.length A3.tc) HGga.out))
              have OS := Lib.hid (O5.out.storeI_ (y0 := .int .i64 m.en) (y1 := .int .i64 m.tm) (y2 := .int .i64 m.tr) (y3 := .int .i64 m.bm) (y4 := .int .i64 m.br) (y5 := .slice A3.sa m.sats.length A3.sc) (y6 := .slice A3.ca m.cus.length A3.cc) (y7 := .slice A3.ka m.cost.length A3.kc) (y8 := .slice A3.ta m.time.length A3.tc) P5.out)
              have RS := Lib.hid (R5.out.storeI_ (y0 := .int .i64 m.en) (y1 := .int .i64 m.tm) (y2 := .int .i64 m.tr) (y3 := .int .i64 m.bm) (y4 := .int .i64 m.br) (y5 := .slice A3.sa m.sats.length A3.sc) (y6 := .slice A3.ca m.cus.length A3.cc) (y7 := .slice A3.ka m.cost.length A3.kc) (y8 := .slice A3.ta m.time.length A3.tc) P5.out)
              refine wpAnyH_ready (rs := [6]) (by kernel_rfl) (by simp) ?_
              refine AllReadyH.cons rfl (fun K hK => ?_) (AllReadyH.nil)
              go_simp
              refine hK.out _ _ ?_ (fun hHeld => ?_)
              · exact HS9.out.smallc
              clear hK K
              try simp only [Act.put, List.setIfInBounds_toArray, List.set_cons_zero, List.set_cons_succ, List.getElem_toArray, List.getElem_cons_zero, List.getElem_cons_succ]
              clear n0 n1 n2 n3 n4 n5 n6 n7 n8 nf
              obtain ⟨v9, hv9⟩ : ∃ v9, storeI v5 ga (.int .i64 m.en) (.int .i64 m.tm) (.int .i64 m.tr) (.int .i64 m.bm) (.int .i64 m.br) (.slice A3.sa m.sats.length A3.sc) (.slice A3.ca m.cus.length A3.cc) (.slice A3.ka m.cost.length A3.kc) (.slice A3.ta m.time.length A3.tc) = v9 := ⟨_, rfl⟩
              rw [hv9] at PS QS HS9 OS RS
              unfold storeI at hv9
              rw [hv9] at hHeld ⊢
              clear hv9
              obtain ⟨n0, n1, n2, n3, n4, n5, n6, n7, n8, nf⟩ := cells9 QS.out
              have QT := Lib.hid (storeI_blk (y0 := .int .i64 m.en) (y1 := .int .i64 m.tm) (y2 := .int .i64 m.tr) (y3 := .int .i64 m.bm) (y4 := .int .i64 m.br) (y5 := .slice A4.sa m.sats.length A4.sc) (y6 := .slice A4.ca m.cus.length A4.cc) (y7 := .slice A4.ka m.cost.length A4.kc) (y8 := .slice A4.ta m.time.length A4.tc) QS.out)
              have PT := Lib.hid ((storeI_other (y0 := .int .i64 m.en) (y1 := .int .i64 m.tm) (y2 := .int .i64 m.tr) (y3 := .int .i64 m.bm) (y4 := .int .i64 m.br) (y5 := .slice A4.sa m.sats.length A4.sc) (y6 := .slice A4.ca m.cus.length A4.cc) (y7 := .slice A4.ka m.cost.length A4.kc) (y8 := .slice A4.ta m.time.length A4.tc) HNE.out).trans PS.out)
              have HT9 := Lib.hid (HS9.out.mod (below_storeI (wr := v9) (y0 := .int .i64 m.en) (y1 := .int .i64 m.tm) (y2 := .int .i64 m.tr) (y3 := .int .i64 m.bm) (y4 := .int .i64 m.br) (y5 := .slice A4.sa m.sats.length A4.sc) (y6 := .slice A4.ca m.cus.length A4.cc) (y7 := .slice A4.ka m.cost.length A4.kc) (y8 := .slice A4.ta m.time.length A4.tc) HGgb.out))
              have OT := Lib.hid (OS.out.storeI_ (y0 := .int .i64 m.en) (y1 := .int .i64 m.tm) (y2 := .int .i64 m.tr) (y3 := .int .i64 m.bm) (y4 := .int .i64 m.br) (y5 := .slice A4.sa m.sats.length A4.sc) (y6 := .slice A4.ca m.cus.length A4.cc) (y7 := .slice A4.ka m.cost.length A4.kc) (y8 := .slice A4.ta m.time.length A4.tc) QS.out)
              have RT := Lib.hid (RS.out.storeI_ (y0 := .int .i64 m.en) (y1 := .int .i64 m.tm) (y2 := .int .i64 m.tr) (y3 := .int .i64 m.bm) (y4 := .int .i64 m.br) (y5 := .slice A4.sa m.sats.length A4.sc) (y6 := .slice A4.ca m.cus.length A4.cc) (y7 := .slice A4.ka m.cost.length A4.kc) (y8 := .slice A4.ta m.time.length A4.tc) QS.out)
              refine wpAnyH_ready (rs := [7]) (by kernel_rfl) (by simp) ?_
              refine AllReadyH.cons rfl (fun K hK => ?_) (AllReadyH.nil)
              go_simp
              refine hK.out _ _ ?_ (fun hHeld => ?_)
              · exact HT9.out.smallc
              clear hK K
              try simp only [Act.put, List.setIfInBounds_toArray, List.set_cons_zero, List.set_cons_succ, List.getElem_toArray, List.getElem_cons_zero, List.getElem_cons_succ]
              refine wpAnyH_done (by kernel_rfl) ?_ _
              clear hHeld n0 n1 n2 n3 n4 n5 n6 n7 n8 nf
              go_wp2_with fail
              go_meet
              exact ⟨ga, gb, D0, A3, A4, _, C4, D4, VK4, VT4, _, _, rfl, rfl, ⟨HT9.out, PT.out, OT.out, HGga.out, HDG.out⟩, ⟨QT.out, RT.out, hn1, hn2.2, hn4.2⟩, HNE.out, HGgb.out, HBD.out⟩
          · go_simp
            have hb := below1 v2 (.cells #[.int .i64 0, .int .i64 0, .int .i64 0, .int .i64 0, .int .i64 0, .slice none 0 0, .slice none 0 0, .slice none 0 0, .slice none 0 0] 28)
            have H3 := Lib.hid (H2.out.later hb)
            have Q3 := Lib.hid (heap_alloc_new v2 (.cells #[.int .i64 0, .int .i64 0, .int .i64 0, .int .i64 0, .int .i64 0, .slice none 0 0, .slice none 0 0, .slice none 0 0, .slice none 0 0] 28))
            have P3 := Lib.hid ((hb.block _ (Array.getElem?_eq_some_iff.1 P2.out).1).trans P2.out)
            refine hK.out _ _ ?_ (fun hHeld => ?_)
            · exact H3.out.smallc
            clear hK K
            try simp only [Act.put, List.setIfInBounds_toArray, List.set_cons_zero, List.set_cons_succ, List.getElem_toArray, List.getElem_cons_zero, List.getElem_cons_succ]
            obtain ⟨gb, hgb⟩ : ∃ g, v2.heap.size = g := ⟨_, rfl⟩
            have HGgb : Hid (w.heap.size + 3 ≤ gb) := Lib.hid (by rw [← hgb]; exact H2.out.lt)
            have HNE : Hid (ga ≠ gb) := Lib.hid (by have := (Array.getElem?_eq_some_iff.1 P2.out).1; omega)
            obtain ⟨v3, hv3⟩ : ∃ W9, World.alloc v2 (.cells #[.int .i64 0, .int .i64 0, .int .i64 0, .int .i64 0, .int .i64 0, .slice none 0 0, .slice none 0 0, .slice none 0 0, .slice none 0 0] 28) = W9 := ⟨_, rfl⟩
            rw [hv3] at hHeld H3 Q3 P3 ⊢
            rw [hgb] at Q3 ⊢
            clear hgb hv3 hb
            refine wpAnyH_ready (rs := [1]) (by kernel_rfl) (by simp) ?_
            refine AllReadyH.cons rfl (fun K hK => ?_) (AllReadyH.nil)
            go_simp
            refine (HMK.out _ (H3.out.here HSM.out)).mono ?_
            rintro e v4 ⟨⟨A3, rfl, C3, D3, VK3, VT3, hown⟩, hb⟩
            have O4 := Lib.hid (AOwn.make hown)
            obtain ⟨D0, hD0⟩ : ∃ D0, v4.heap.size = D0 := ⟨_, rfl⟩
            have E4 : Hid (D0 ≤ v4.heap.size) := Lib.hid (by rw [hD0]; exact Nat.le_refl _)
            rw [hD0] at O4
            have H4 := Lib.hid (H3.out.later hb)
            have P4 := Lib.hid ((hb.block _ (Array.getElem?_eq_some_iff.1 P3.out).1).trans P3.out)
            have Q4 := Lib.hid ((hb.block _ (Array.getElem?_eq_some_iff.1 Q3.out).1).trans Q3.out)
            have HDG : Hid (w.heap.size + 3 ≤ D0) := Lib.hid (by rw [← hD0]; exact H4.out.lt)
            clear hD0
            clear hown hb
            refine hK.out _ _ ?_ (fun hHeld => ?_)
            · exact H4.out.smallc
            clear hK K
            try simp only [Act.put, List.setIfInBounds_toArray, List.set_cons_zero, List.set_cons_succ, List.getElem_toArray, List.getElem_cons_zero, List.getElem_cons_succ]
            refine wpAnyH_ready (rs := [3]) (by kernel_rfl) (by simp) ?_
            refine AllReadyH.cons rfl (fun K hK => ?_) (AllReadyH.nil)
            go_simp
            refine (HMK.out _ (H4.out.here HSM.out)).mono ?_
            rintro e v5 ⟨⟨A4, rfl, C4, D4, VK4, VT4, hown⟩, hb⟩
            have R5 := Lib.hid hown
            have HBD : Hid (D0 ≤ v4.heap.size + 3) := Lib.hid (by have := E4.out; omega)
            have H5 := Lib.hid (H4.out.later hb)
            have P5 := Lib.hid ((hb.block _ (Array.getElem?_eq_some_iff.1 P4.out).1).trans P4.out)
            have Q5 := Lib.hid ((hb.block _ (Array.getElem?_eq_some_iff.1 Q4.out).1).trans Q4.out)
            have O5 := Lib.hid (O4.out.later hb)
            have E5 := Lib.hid (Nat.le_trans E4.out hb.size)
            clear hown hb
            refine hK.out _ _ ?_ (fun hHeld => ?_)
            · exact H5.out.smallc
            clear hK K
            try simp only [Act.put, List.setIfInBounds_toArray, List.set_cons_zero, List.set_cons_succ, List.getElem_toArray, List.getElem_cons_zero, List.getElem_cons_succ]
            obtain ⟨n0, n1, n2, n3, n4, n5, n6, n7, n8, nf⟩ := cells9 P5.out
            have PS := Lib.hid (storeI_blk (y0 := .int .i64 m.en) (y1 := .int .i64 m.tm) (y2 := .int .i64 m.tr) (y3 := .int .i64 m.bm) (y4 := .int .i64 m.br) (y5 := .slice A3.sa m.sats.length A3.sc) (y6 := .slice A3.ca m.cus.length A3.cc) (y7 := .slice A3.ka m.cost.length A3.kc) (y8 := .slice A3.ta m.time.length A3.tc) P5.out)
            have QS := Lib.hid ((storeI_other (y0 := .int .i64 m.en) (y1 := .int .i64 m.tm) (y2 := .int .i64 m.tr) (y3 := .int .i64 m.bm) (y4 := .int .i64 m.br) (y5 := .slice A3.sa m.sats.length A3.sc) (y6 := .slice A3.ca m.cus.length A3.cc) (y7 := .slice A3.ka m.cost.length A3.kc) (y8 := .slice A3.ta m.time.length A3.tc) (Ne.symm HNE.out)).trans Q5.out)
            have HS9 := Lib.hid (H5.out.mod (below_storeI (wr := v5) (y0 := .int .i64 m.en) (y1 := .int .i64 m.tm) (y2 := .int .i64 m.tr) (y3 := .int .i64 m.bm) (y4 := .int .i64 m.br) (y5 := .slice A3.sa m.sats.length A3.sc) (y6 := .slice A3.ca m.cus.length A3.cc) (y7 := .slice A3.ka m.cost.length A3.kc) (y8 := .slice A3.ta m.time.length A3.tc) HGga.out))
            have OS := Lib.hid (O5.out.storeI_ (y0 := .int .i64 m.en) (y1 := .int .i64 m.tm) (y2 := .int .i64 m.tr) (y3 := .int .i64 m.bm) (y4 := .int .i64 m.br) (y5 := .slice A3.sa m.sats.length A3.sc) (y6 := .slice A3.ca m.cus.length A3.cc) (y7 := .slice A3.ka m.cost.length A3.kc) (y8 := .slice A3.ta m.time.length A3.tc) P5.out)
            have RS := Lib.hid (R5.out.storeI_ (y0 := .int .i64 m.en) (y1 := .int .i64 m.tm) (y2 := .int .i64 m.tr) (y3 := .int .i64 m.bm) (y4 := .int .i64 m.br) (y5 := .slice A3.sa m.sats.length A3.sc) (y6 := .slice A3.ca m.cus.length A3.cc) (y7 := .slice A3.ka m.cost.length A3.kc) (y8 := .slice A3.ta m.time.length A3.tc) P5.out)
            refine wpAnyH_ready (rs := [6]) (by kernel_rfl) (by simp) ?_
            refine AllReadyH.cons rfl (fun K hK => ?_) (AllReadyH.nil)
            go_simp
            refine hK.out _ _ ?_ (fun hHeld => ?_)
            · exact HS9.out.smallc
            clear hK K
            try simp only [Act.put, List.setIfInBounds_toArray, List.set_cons_zero, List.set_cons_succ, List.getElem_toArray, List.getElem_cons_zero, List.getElem_cons_succ]
            clear n0 n1 n2 n3 n4 n5 n6 n7 n8 nf
            obtain ⟨v9, hv9⟩ : ∃ v9, storeI v5 ga (.int .i64 m.en) (.int .i64 m.tm) (.int .i64 m.tr) (.int .i64 m.bm) (.int .i64 m.br) (.slice A3.sa m.sats.length A3.sc) (.slice A3.ca m.cus.length A3.cc) (.slice A3.ka m.cost.length A3.kc) (.slice A3.ta m.time.length A3.tc) = v9 := ⟨_, rfl⟩
            rw [hv9] at PS QS HS9 OS RS
            unfold storeI at hv9
            rw [hv9] at hHeld ⊢
            clear hv9
            obtain ⟨n0, n1, n2, n3, n4, n5, n6, n7, n8, nf⟩ := cells9 QS.out
            have QT := Lib.hid (storeI_blk (y0 := .int .i64 m.en) (y1 := .int .i64 m.tm) (y2 := .int .i64 m.tr) (y3 := .int .i64 m.bm) (y4 := .int .i64 m.br) (y5 := .slice A4.sa m.sats.length A4.sc) (y6 := .slice A4.ca m.cus.length A4.cc) (y7 := .slice A4.ka m.cost.length A4.kc) (y8 := .slice A4.ta m.time.length A4.tc) QS.out)
            have PT := Lib.hid ((storeI_other (y0 := .int .i64 m.en) (y1 := .int .i64 m.tm) (y2 := .int .i64 m.tr) (y3 := .int .i64 m.bm) (y4 := .int .i64 m.br) (y5 := .slice A4.sa m.sats.length A4.sc) (y6 := .slice A4.ca m.cus.length A4.cc) (y7 := .slice A4.ka m.cost.length A4.kc) (y8 := .slice A4.ta m.time.length A4.tc) HNE.out).trans PS.out)
            have HT9 := Lib.hid (HS9.out.mod (below_storeI (wr := v9) (y0 := .int .i64 m.en) (y1 := .int .i64 m.tm) (y2 := .int .i64 m.tr) (y3 := .int .i64 m.bm) (y4 := .int .i64 m.br) (y5 := .slice A4.sa m.sats.length A4.sc) (y6 := .slice A4.ca m.cus.length A4.cc) (y7 := .slice A4.ka m.cost.length A4.kc) (y8 := .slice A4.ta m.time.length A4.tc) HGgb.out))
            have OT := Lib.hid (OS.out.storeI_ (y0 := .int .i64 m.en) (y1 := .int .i64 m.tm) (y2 := .int .i64 m.tr) (y3 := .int .i64 m.bm) (y4 := .int .i64 m.br) (y5 := .slice A4.sa m.sats.length A4.sc) (y6 := .slice A4.ca m.cus.length A4.cc) (y7 := .slice A4.ka m.cost.length A4.kc) (y8 := .slice A4.ta m.time.length A4.tc) QS.out)
            have RT := Lib.hid (RS.out.storeI_ (y0 := .int .i64 m.en) (y1 := .int .i64 m.tm) (y2 := .int .i64 m.tr) (y3 := .int .i64 m.bm) (y4 := .int .i64 m.br) (y5 := .slice A4.sa m.sats.length A4.sc) (y6 := .slice A4.ca m.cus.length A4.cc) (y7 := .slice A4.ka m.cost.length A4.kc) (y8 := .slice A4.ta m.time.length A4.tc) QS.out)
            refine wpAnyH_ready (rs := [7]) (by kernel_rfl) (by simp) ?_
            refine AllReadyH.cons rfl (fun K hK => ?_) (AllReadyH.nil)
            go_simp
            refine hK.out _ _ ?_ (fun hHeld => ?_)
            · exact HT9.out.smallc
            clear hK K
            try simp only [Act.put, List.setIfInBounds_toArray, List.set_cons_zero, List.set_cons_succ, List.getElem_toArray, List.getElem_cons_zero, List.getElem_cons_succ]
            refine wpAnyH_done (by kernel_rfl) ?_ _
            clear hHeld n0 n1 n2 n3 n4 n5 n6 n7 n8 nf
            go_wp2_with fail
            go_meet
            exact ⟨ga, gb, D0, A3, A4, _, C4, D4, VK4, VT4, _, _, rfl, rfl, ⟨HT9.out, PT.out, OT.out, HGga.out, HDG.out⟩, ⟨QT.out, RT.out, hn1, hn2.2, hn4.2⟩, HNE.out, HGgb.out, HBD.out⟩
        · go_simp
          have hb := below1 v1 (.cells #[.int .i64 0, .int .i64 0, .int .i64 0, .int .i64 0, .int .i64 0, .slice none 0 0, .slice none 0 0, .slice none 0 0, .slice none 0 0] 28)
          have H2 := Lib.hid (H1.out.later hb)
          have Q2 := Lib.hid (heap_alloc_new v1 (.cells #[.int .i64 0, .int .i64 0, .int .i64 0, .int .i64 0, .int .i64 0, .slice none 0 0, .slice none 0 0, .slice none 0 0, .slice none 0 0] 28))
          refine hK.out _ _ ?_ (fun hHeld => ?_)
          · exact H2.out.smallc
          clear hK K
          try simp only [Act.put, List.setIfInBounds_toArray, List.set_cons_zero, List.set_cons_succ, List.getElem_toArray, List.getElem_cons_zero, List.getElem_cons_succ]
          obtain ⟨gb, hgb⟩ : ∃ g, v1.heap.size = g := ⟨_, rfl⟩
          have HGgb : Hid (w.heap.size + 3 ≤ gb) := Lib.hid (by rw [← hgb]; exact H1.out.lt)
          obtain ⟨v2, hv2⟩ : ∃ W9, World.alloc v1 (.cells #[.int .i64 0, .int .i64 0, .int .i64 0, .int .i64 0, .int .i64 0, .slice none 0 0, .slice none 0 0, .slice none 0 0, .slice none 0 0] 28) = W9 := ⟨_, rfl⟩
          rw [hv2] at hHeld H2 Q2 ⊢
          rw [hgb] at Q2 ⊢
          clear hgb hv2 hb
          refine wpAnyH_ready (rs := [1, 4]) (by kernel_rfl) (by simp) ?_
          refine AllReadyH.cons rfl (fun K hK => ?_) (AllReadyH.cons rfl (fun K hK => ?_) (AllReadyH.nil))
          · go_simp
            refine (HMK.out _ (H2.out.here HSM.out)).mono ?_
            rintro e v3 ⟨⟨A3, rfl, C3, D3, VK3, VT3, hown⟩, hb⟩
            have O3 := Lib.hid (AOwn.make hown)
            obtain ⟨D0, hD0⟩ : ∃ D0, v3.heap.size = D0 := ⟨_, rfl⟩
            have E3 : Hid (D0 ≤ v3.heap.size) := Lib.hid (by rw [hD0]; exact Nat.le_refl _)
            rw [hD0] at O3
            have H3 := Lib.hid (H2.out.later hb)
            have Q3 := Lib.hid ((hb.block _ (Array.getElem?_eq_some_iff.1 Q2.out).1).trans Q2.out)
            have HDG : Hid (w.heap.size + 3 ≤ D0) := Lib.hid (by rw [← hD0]; exact H3.out.lt)
            clear hD0
            clear hown hb
            refine hK.out _ _ ?_ (fun hHeld => ?_)
            · exact H3.out.smallc
            clear hK K
            try simp only [Act.put, List.setIfInBounds_toArray, List.set_cons_zero, List.set_cons_succ, List.getElem_toArray, List.getElem_cons_zero, List.getElem_cons_succ]
            refine wpAnyH_ready (rs := [3, 4]) (by kernel_rfl) (by simp) ?_
            refine AllReadyH.cons rfl (fun K hK => ?_) (AllReadyH.cons rfl (fun K hK => ?_) (AllReadyH.nil))
            · go_simp
              refine (HMK.out _ (H3.out.here HSM.out)).mono ?_
              rintro e v4 ⟨⟨A4, rfl, C4, D4, VK4, VT4, hown⟩, hb⟩
              have R4 := Lib.hid hown
              have HBD : Hid (D0 ≤ v3.heap.size + 3) := Lib.hid (by have := E3.out; omega)
              have H4 := Lib.hid (H3.out.later hb)
              have Q4 := Lib.hid ((hb.block _ (Array.getElem?_eq_some_iff.1 Q3.out).1).trans Q3.out)
              have O4 := Lib.hid (O3.out.later hb)
              have E4 := Lib.hid (Nat.le_trans E3.out hb.size)
              clear hown hb
              refine hK.out _ _ ?_ (fun hHeld => ?_)
              · exact H4.out.smallc
              clear hK K
              try simp only [Act.put, List.setIfInBounds_toArray, List.set_cons_zero, List.set_cons_succ, List.getElem_toArray, List.getElem_cons_zero, List.getElem_cons_succ]
              refine wpAnyH_ready (rs := [4]) (by kernel_rfl) (by simp) ?_
              refine AllReadyH.cons rfl (fun K hK => ?_) (AllReadyH.nil)
              go_simp
              have hb := below1 v4 (.cells #[.int .i64 0, .int .i64 0, .int .i64 0, .int .i64 0, .int .i64 0, .slice none 0 0, .slice none 0 0, .slice none 0 0, .slice none 0 0] 28)
              have H5 := Lib.hid (H4.out.later hb)
              have P5 := Lib.hid (heap_alloc_new v4 (.cells #[.int .i64 0, .int .i64 0, .int .i64 0, .int .i64 0, .int .i64 0, .slice none 0 0, .slice none 0 0, .slice none 0 0, .slice none 0 0] 28))
              have Q5 := Lib.hid ((hb.block _ (Array.getElem?_eq_some_iff.1 Q4.out).1).trans Q4.out)
              have O5 := Lib.hid (O4.out.later hb)
              have E5 := Lib.hid (Nat.le_trans E4.out hb.size)
              have R5 := Lib.hid (R4.out.later hb)
              refine hK.out _ _ ?_ (fun hHeld => ?_)
              · exact H5.out.smallc
              clear hK K
              try simp only [Act.put, List.setIfInBounds_toArray, List.set_cons_zero, List.set_cons_succ, List.getElem_toArray, List.getElem_cons_zero, List.getElem_cons_succ]
              obtain ⟨ga, hga⟩ : ∃ g, v4.heap.size = g := ⟨_, rfl⟩
              have HGga : Hid (w.heap.size + 3 ≤ ga) := Lib.hid (by rw [← hga]; exact H4.out.lt)
              have HNE : Hid (ga ≠ gb) := Lib.hid (by have := (Array.getElem?_eq_some_iff.1 Q4.out).1; omega)
              obtain ⟨v5, hv5⟩ : ∃ W9, World.alloc v4 (.cells #[.int .i64 0, .int .i64 0, .int .i64 0, .int .i64 0, .int .i64 0, .slice none 0 0, .slice none 0 0, .slice none 0 0, .slice none 0 0] 28) = W9 := ⟨_, rfl⟩
              rw [hv5] at hHeld H5 P5 Q5 O5 E5 R5 ⊢
              rw [hga] at P5 ⊢
              clear hga hv5 hb
              obtain ⟨n0, n1, n2, n3, n4, n5, n6, n7, n8, nf⟩ := cells9 P5.out
              have PS := Lib.hid (storeI_blk (y0 := .int .i64 m.en) (y1 := .int .i64 m.tm) (y2 := .int .i64 m.tr) (y3 := .int .i64 m.bm) (y4 := .int .i64 m.br) (y5 := .slice A3.sa m.sats.length A3.sc) (y6 := .slice A3.ca m.cus.length A3.cc) (y7 := .slice A3.ka m.cost.length A3.kc) (y8 := .slice A3.ta m.time.length A3.tc) P5.out)
              have QS := Lib.hid ((storeI_other (y0 := .int .i64 m.en) (y1 := .int .i64 m.tm) (y2 := .int .i64 m.tr) (y3 := .int .i64 m.bm) (y4 := .int .i64 m.br) (y5 := .slice A3.sa m.sats.length A3.sc) (y6 := .slice A3.ca m.cus.length A3.cc) (y7 := .slice A3.ka m.cost.length A3.kc) (y8 := .slice A3.ta m.time.length A3.tc) (Ne.symm HNE.out)).trans Q5.out)
              have HS9 := Lib.hid (H5.out.mod (below_storeI (wr := v5) (y0 := .int .i64 m.en) (y1 := .int .i64 m.tm) (y2 := .int .i64 m.tr) (y3 := .int .i64 m.bm) (y4 := .int .i64 m.br) (y5 := .slice A3.sa m.sats.length A3.sc) (y6 := .slice A3.ca m.cus.length A3.cc) (y7 := .slice A3.ka m.cost.length A3.kc) (y8 := .slice A3.ta m.time.length A3.tc) HGga.out))
              have OS := Lib.hid (O5.out.storeI_ (y0 := .int .i64 m.en) (y1 := .int .i64 m.tm) (y2 := .int .i64 m.tr) (y3 := .int .i64 m.bm) (y4 := .int .i64 m.br) (y5 := .slice A3.sa m.sats.length A3.sc) (y6 := .slice A3.ca m.cus.length A3.cc) (y7 := .slice A3.ka m.cost.length A3.kc) (y8 := .slice A3.ta m.time.length A3.tc) P5.out)
              have RS := Lib.hid (R5.out.storeI_ (y0 := .int .i64 m.en) (y1 := .int .i64 m.tm) (y2 := .int .i64 m.tr) (y3 := .int .i64 m.bm) (y4 := .int .i64 m.br) (y5 := .slice A3.sa m.sats.length A3.sc) (y6 := .slice A3.ca m.cus.length A3.cc) (y7 := .slice A3.ka m.cost.length A3.kc) (y8 := .slice A3.ta m.time.length A3.tc) P5.out)
              refine wpAnyH_ready (rs := [6]) (by kernel_rfl) (by simp) ?_
              refine AllReadyH.cons rfl (fun K hK => ?_) (AllReadyH.nil)
              go_simp
              refine hK.out _ _ ?_ (fun hHeld => ?_)
              · exact HS9.out.smallc
              clear hK K
              try simp only [Act.put, List.setIfInBounds_toArray, List.set_cons_zero, List.set_cons_succ, List.getElem_toArray, List.getElem_cons_zero, List.getElem_cons_succ]
              clear n0 n1 n2 n3 n4 n5 n6 n7 n8 nf
              obtain ⟨v9, hv9⟩ : ∃ v9, storeI v5 ga (.int .i64 m.en) (.int .i64 m.tm) (.int .i64 m.tr) (.int .i64 m.bm) (.int .i64 m.br) (.slice A3.sa m.sats.length A3.sc) (.slice A3.ca m.cus.length A3.cc) (.slice A3.ka m.cost.length A3.kc) (.slice A3.ta m.time.length A3.tc) = v9 := ⟨_, rfl⟩
              rw [hv9] at PS QS HS9 OS RS
              unfold storeI at hv9
              rw [hv9] at hHeld ⊢
              clear hv9
              obtain ⟨n0, n1, n2, n3, n4, n5, n6, n7, n8, nf⟩ := cells9 QS.out
              have QT := Lib.hid (storeI_blk (y0 := .int .i64 m.en) (y1 := .int .i64 m.tm) (y2 := .int .i64 m.tr) (y3 := .int .i64 m.bm) (y4 := .int .i64 m.br) (y5 := .slice A4.sa m.sats.length A4.sc) (y6 := .slice A4.ca m.cus.length A4.cc) (y7 := .slice A4.ka m.cost.length A4.kc) (y8 := .slice A4.ta m.time.length A4.tc) QS.out)
              have PT := Lib.hid ((storeI_other (y0 := .int .i64 m.en) (y1 := .int .i64 m.tm) (y2 := .int .i64 m.tr) (y3 := .int .i64 m.bm) (y4 := .int .i64 m.br) (y5 := .slice A4.sa m.sats.length A4.sc) (y6 := .slice A4.ca m.cus.length A4.cc) (y7 := .slice A4.ka m.cost.length A4.kc) (y8 := .slice A4.ta m.time.length A4.tc) HNE.out).trans PS.out)
              have HT9 := Lib.hid (HS9.out.mod (below_storeI (wr := v9) (y0 := .int .i64 m.en) (y1 := .int .i64 m.tm) (y2 := .int .i64 m.tr) (y3 := .int .i64 m.bm) (y4 := .int .i64 m.br) (y5 := .slice A4.sa m.sats.length A4.sc) (y6 := .slice A4.ca m.cus.length A4.cc) (y7 := .slice A4.ka m.cost.length A4.kc) (y8 := .slice A4.ta m.time.length A4.tc) HGgb.out))
              have OT := Lib.hid (OS.out.storeI_ (y0 := .int .i64 m.en) (y1 := .int .i64 m.tm) (y2 := .int .i64 m.tr) (y3 := .int .i64 m.bm) (y4 := .int .i64 m.br) (y5 := .slice A4.sa m.sats.length A4.sc) (y6 := .slice A4.ca m.cus.length A4.cc) (y7 := .slice A4.ka m.cost.length A4.kc) (y8 := .slice A4.ta m.time.length A4.tc) QS.out)
              have RT := Lib.hid (RS.out.storeI_ (y0 := .int .i64 m.en) (y1 := .int .i64 m.tm) (y2 := .int .i64 m.tr) (y3 := .int .i64 m.bm) (y4 := .int .i64 m.br) (y5 := .slice A4.sa m.sats.length A4.sc) (y6 := .slice A4.ca m.cus.length A4.cc) (y7 := .slice A4.ka m.cost.length A4.kc) (y8 := .slice A4.ta m.time.length A4.tc) QS.out)
              refine wpAnyH_ready (rs := [7]) (by kernel_rfl) (by simp) ?_
              refine AllReadyH.cons rfl (fun K hK => ?_) (AllReadyH.nil)
              go_simp
              refine hK.out _ _ ?_ (fun hHeld => ?_)
              · exact HT9.out.smallc
              clear hK K
              try simp only [Act.put, List.setIfInBounds_toArray, List.set_cons_zero, List.set_cons_succ, List.getElem_toArray, List.getElem_cons_zero, List.getElem_cons_succ]
              refine wpAnyH_done (by kernel_rfl) ?_ _
              clear hHeld n0 n1 n2 n3 n4 n5 n6 n7 n8 nf
              go_wp2_with fail
              go_meet
              exact ⟨ga, gb, D0, A3, A4, _, C4, D4, VK4, VT4, _, _, rfl, rfl, ⟨HT9.out, PT.out, OT.out, HGga.out, HDG.out⟩, ⟨QT.out, RT.out, hn1, hn2.2, hn4.2⟩, HNE.out, HGgb.out, HBD.out⟩
            · go_simp
              have hb := below1 v3 (.cells #[.int .i64 0, .int .i64 0, .int .i64 0, .int .i64 0, .int .i64 0, .slice none 0 0, .slice none 0 0, .slice none 0 0, .slice none 0 0] 28)
              have H4 := Lib.hid (H3.out.later hb)
              have P4 := Lib.hid (heap_alloc_new v3 (.cells #[.int .i64 0, .int .i64 0, .int .i64 0, .int .i64 0, .int .i64 0, .slice none 0 0, .slice none 0 0, .slice none 0 0, .slice none 0 0] 28))
              have Q4 := Lib.hid ((hb.block _ (Array.getElem?_eq_some_iff.1 Q3.out).1).trans Q3.out)
              have O4 := Lib.hid (O3.out.later hb)
              have E4 := Lib.hid (Nat.le_trans E3.out hb.size)
              refine hK.out _ _ ?_ (fun hHeld => ?_)
              · exact H4.out.smallc
              clear hK K
              try simp only [Act.put, List.setIfInBounds_toArray, List.set_cons_zero, List.set_cons_succ, List.getElem_toArray, List.getElem_cons_zero, List.getElem_cons_succ]
              obtain ⟨ga, hga⟩ : ∃ g, v3.heap.size = g := ⟨_, rfl⟩
              have HGga : Hid (w.heap.size + 3 ≤ ga) := Lib.hid (by rw [← hga]; exact H3.out.lt)
              have HNE : Hid (ga ≠ gb) := Lib.hid (by have := (Array.getElem?_eq_some_iff.1 Q3.out).1; omega)
              obtain ⟨v4, hv4⟩ : ∃ W9, World.alloc v3 (.cells #[.int .i64 0, .int .i64 0, .int .i64 0, .int .i64 0, .int .i64 0, .slice none 0 0, .slice none 0 0, .slice none 0 0, .slice none 0 0] 28) = W9 := ⟨_, rfl⟩
              rw [hv4] at hHeld H4 P4 Q4 O4 E4 ⊢
              rw [hga] at P4 ⊢
              clear hga hv4 hb
              refine wpAnyH_ready (rs := [3]) (by kernel_rfl) (by simp) ?_
              refine AllReadyH.cons rfl (fun K hK => ?_) (AllReadyH.nil)
              go_simp
              refine (HMK.out _ (H4.out.here HSM.out)).mono ?_
              rintro e v5 ⟨⟨A4, rfl, C4, D4, VK4, VT4, hown⟩, hb⟩
              have R5 := Lib.hid hown
              have HBD : Hid (D0 ≤ v4.heap.size + 3) := Lib.hid (by have := E4.out; omega)
              have H5 := Lib.hid (H4.out.later hb)
              have P5 := Lib.hid ((hb.block _ (Array.getElem?_eq_some_iff.1 P4.out).1).trans P4.out)
              have Q5 := Lib.hid ((hb.block _ (Array.getElem?_eq_some_iff.1 Q4.out).1).trans Q4.out)
              have O5 := Lib.hid (O4.out.later hb)
              have E5 := Lib.hid (Nat.le_trans E4.out hb.size)
              clear hown hb
              refine hK.out _ _ ?_ (fun hHeld => ?_)
              · exact H5.out.smallc
              clear hK K
              try simp only [Act.put, List.setIfInBounds_toArray, List.set_cons_zero, List.set_cons_succ, List.getElem_toArray, List.getElem_cons_zero, List.getElem_cons_succ]
              obtain ⟨n0, n1, n2, n3, n4, n5, n6, n7, n8, nf⟩ := cells9 P5.out
              have PS := Lib.hid (storeI_blk (y0 := .int .i64 m.en) (y1 := .int .i64 m.tm) (y2 := .int .i64 m.tr) (y3 := .int .i64 m.bm) (y4 := .int .i64 m.br) (y5 := .slice A3.sa m.sats.length A3.sc) (y6 := .slice A3.ca m.cus.length A3.cc) (y7 := .slice A3.ka m.cost.length A3.kc) (y8 := .slice A3.ta m.time.length A3.tc) P5.out)
              have QS := Lib.hid ((storeI_other (y0 := .int .i64 m.en) (y1 := .int .i64 m.tm) (y2 := .int .i64 m.tr) (y3 := .int .i64 m.bm) (y4 := .int .i64 m.br) (y5 := .slice A3.sa m.sats.length A3.sc) (y6 := .slice A3.ca m.cus.length A3.cc) (y7 := .slice A3.ka m.cost.length A3.kc) (y8 := .slice A3.ta m.time.length A3.tc) (Ne.symm HNE.out)).trans Q5.out)
              have HS9 := Lib.hid (H5.out.mod (below_storeI (wr := v5) (y0 := .int .i64 m.en) (y1 := .int .i64 m.tm) (y2 := .int .i64 m.tr) (y3 := .int .i64 m.bm) (y4 := .int .i64 m.br) (y5 := .slice A3.sa m.sats.length A3.sc) (y6 := .slice A3.ca m.cus.length A3.cc) (y7 := .slice A3.ka m.cost.length A3.kc) (y8 := .slice A3.ta m.time.length A3.tc) HGga.out))
              have OS := Lib.hid (O5.out.storeI_ (y0 := .int .i64 m.en) (y1 := .int .i64 m.tm) (y2 := .int .i64 m.tr) (y3 := .int .i64 m.bm) (y4 := .int .i64 m.br) (y5 := .slice A3.sa m.sats.length A3.sc) (y6 := .slice A3.ca m.cus.length A3.cc) (y7 := .slice A3.ka m.cost.length A3.kc) (y8 := .slice A3.ta m.time.length A3.tc) P5.out)
              have RS := Lib.hid (R5.out.storeI_ (y0 := .int .i64 m.en) (y1 := .int .i64 m.tm) (y2 := .int .i64 m.tr) (y3 := .int .i64 m.bm) (y4 := .int .i64 m.br) (y5 := .slice A3.sa m.sats.length A3.sc) (y6 := .slice A3.ca m.cus.length A3.cc) (y7 := .slice A3.ka m.cost.length A3.kc) (y8 := .slice A3.ta m.time.length A3.tc) P5.out)
              refine wpAnyH_ready (rs := [6]) (by kernel_rfl) (by simp) ?_
              refine AllReadyH.cons rfl (fun K hK => ?_) (AllReadyH.nil)
              go_simp
              refine hK.out _ _ ?_ (fun hHeld => ?_)
              · exact HS9.out.smallc
              clear hK K
              try simp only [Act.put, List.setIfInBounds_toArray, List.set_cons_zero, List.set_cons_succ, List.getElem_toArray, List.getElem_cons_zero, List.getElem_cons_succ]
              clear n0 n1 n2 n3 n4 n5 n6 n7 n8 nf
              obtain ⟨v9, hv9⟩ : ∃ v9, storeI v5 ga (.int .i64 m.en) (.int .i64 m.tm) (.int .i64 m.tr) (.int .i64 m.bm) (.int .i64 m.br) (.slice A3.sa m.sats.length A3.sc) (.slice A3.ca m.cus.length A3.cc) (.slice A3.ka m.cost.length A3.kc) (.slice A3.ta m.time.length A3.tc) = v9 := ⟨_, rfl⟩
              rw [hv9] at PS QS HS9 OS RS
              unfold storeI at hv9
              rw [hv9] at hHeld ⊢
              clear hv9
              obtain ⟨n0, n1, n2, n3, n4, n5, n6, n7, n8, nf⟩ := cells9 QS.out
              have QT := Lib.hid (storeI_blk (y0 := .int .i64 m.en) (y1 := .int .i64 m.tm) (y2 := .int .i64 m.tr) (y3 := .int .i64 m.bm) (y4 := .int .i64 m.br) (y5 := .slice A4.sa m.sats.length A4.sc) (y6 := .slice A4.ca m.cus.length A4.cc) (y7 := .slice A4.ka m.cost.length A4.kc) (y8 := .slice A4.ta m.time.length A4.tc) QS.out)
              have PT := Lib.hid ((storeI_other (y0 := .int .i64 m.en) (y1 := .int .i64 m.tm) (y2 := .int .i64 m.tr) (y3 := .int .i64 m.bm) (y4 := .int .i64 m.br) (y5 := .slice A4.sa m.sats.length A4.sc) (y6 := .slice A4.ca m.cus.length A4.cc) (y7 := .slice A4.ka m.cost.length A4.kc) (y8 := .slice A4.ta m.time.length A4.tc) HNE.out).trans PS.out)
              have HT9 := Lib.hid (HS9.out.mod (below_storeI (wr := v9) (y0 := .int .i64 m.en) (y1 := .int .i64 m.tm) (y2 := .int .i64 m.tr) (y3 := .int .i64 m.bm) (y4 := .int .i64 m.br) (y5 := .slice A4.sa m.sats.length A4.sc) (y6 := .slice A4.ca m.cus.length A4.cc) (y7 := .slice A4.ka m.cost.length A4.kc) (y8 := .slice A4.ta m.time.length A4.tc) HGgb.out))
              have OT := Lib.hid (OS.out.storeI_ (y0 := .int .i64 m.en) (y1 := .int .i64 m.tm) (y2 := .int .i64 m.tr) (y3 := .int .i64 m.bm) (y4 := .int .i64 m.br) (y5 := .slice A4.sa m.sats.length A4.sc) (y6 := .slice A4.ca m.cus.length A4.cc) (y7 := .slice A4.ka m.cost.length A4.kc) (y8 := .slice A4.ta m.time.length A4.tc) QS.out)
              have RT := Lib.hid (RS.out.storeI_ (y0 := .int .i64 m.en) (y1 := .int .i64 m.tm) (y2 := .int .i64 m.tr) (y3 := .int .i64 m.bm) (y4 := .int .i64 m.br) (y5 := .slice A4.sa m.sats.length A4.sc) (y6 := .slice A4.ca m.cus.length A4.cc) (y7 := .slice A4.ka m.cost.length A4.kc) (y8 := .slice A4.ta m.time.length A4.tc) QS.out)
              refine wpAnyH_ready (rs := [7]) (by kernel_rfl) (by simp) ?_
              refine AllReadyH.cons rfl (fun K hK => ?_) (AllReadyH.nil)
              go_simp
              refine hK.out _ _ ?_ (fun hHeld => ?_)
              · exact HT9.out.smallc
              clear hK K
              try simp only [Act.put, List.setIfInBounds_toArray, List.set_cons_zero, List.set_cons_succ, List.getElem_toArray, List.getElem_cons_zero, List.getElem_cons_succ]
              refine wpAnyH_done (by kernel_rfl) ?_ _
              clear hHeld n0 n1 n2 n3 n4 n5 n6 n7 n8 nf
              go_wp2_with fail
              go_meet
              exact ⟨ga, gb, D0, A3, A4, _, C4, D4, VK4, VT4, _, _, rfl, rfl, ⟨HT9.out, PT.out, OT.out, HGga.out, HDG.out⟩, ⟨QT.out, RT.out, hn1, hn2.2, hn4.2⟩, HNE.out, HGgb.out, HBD.out⟩
          · go_simp
            have hb := below1 v2 (.cells #[.int .i64 0, .int .i64 0, .int .i64 0, .int .i64 0, .int .i64 0, .slice none 0 0, .slice none 0 0, .slice none 0 0, .slice none 0 0] 28)
            have H3 := Lib.hid (H2.out.later hb)
            have P3 := Lib.hid (heap_alloc_new v2 (.cells #[.int .i64 0, .int .i64 0, .int .i64 0, .int .i64 0, .int .i64 0, .slice none 0 0, .slice none 0 0, .slice none 0 0, .slice none 0 0] 28))
            have Q3 := Lib.hid ((hb.block _ (Array.getElem?_eq_some_iff.1 Q2.out).1).trans Q2.out)
            refine hK.out _ _ ?_ (fun hHeld => ?_)
            · exact H3.out.smallc
            clear hK K
            try simp only [Act.put, List.setIfInBounds_toArray, List.set_cons_zero, List.set_cons_succ, List.getElem_toArray, List.getElem_cons_zero, List.getElem_cons_succ]
            obtain ⟨ga, hga⟩ : ∃ g, v2.heap.size = g := ⟨_, rfl⟩
            have HGga : Hid (w.heap.size + 3 ≤ ga) := Lib.hid (by rw [← hga]; exact H2.out.lt)
            have HNE : Hid (ga ≠ gb) := Lib.hid (by have := (Array.getElem?_eq_some_iff.1 Q2.out).1; omega)
            obtain ⟨v3, hv3⟩ : ∃ W9, World.alloc v2 (.cells #[.int .i64 0, .int .i64 0, .int .i64 0, .int .i64 0, .int .i64 0, .slice none 0 0, .slice none 0 0, .slice none 0 0, .slice none 0 0] 28) = W9 := ⟨_, rfl⟩
            rw [hv3] at hHeld H3 P3 Q3 ⊢
            rw [hga] at P3 ⊢
            clear hga hv3 hb
            refine wpAnyH_ready (rs := [1]) (by kernel_rfl) (by simp) ?_
            refine AllReadyH.cons rfl (fun K hK => ?_) (AllReadyH.nil)
            go_simp
            refine (HMK.out _ (H3.out.here HSM.out)).mono ?_
            rintro e v4 ⟨⟨A3, rfl, C3, D3, VK3, VT3, hown⟩, hb⟩
            have O4 := Lib.hid (AOwn.make hown)
            obtain ⟨D0, hD0⟩ : ∃ D0, v4.heap.size = D0 := ⟨_, rfl⟩
            have E4 : Hid (D0 ≤ v4.heap.size) := Lib.hid (by rw [hD0]; exact Nat.le_refl _)
            rw [hD0] at O4
            have H4 := Lib.hid (H3.out.later hb)
            have P4 := Lib.hid ((hb.block _ (Array.getElem?_eq_some_iff.1 P3.out).1).trans P3.out)
            have Q4 := Lib.hid ((hb.block _ (Array.getElem?_eq_some_iff.1 Q3.out).1).trans Q3.out)
            have HDG : Hid (w.heap.size + 3 ≤ D0) := Lib.hid (by rw [← hD0]; exact H4.out.lt)
            clear hD0
            clear hown hb
            refine hK.out _ _ ?_ (fun hHeld => ?_)
            · exact H4.out.smallc
            clear hK K
            try simp only [Act.put, List.setIfInBounds_toArray, List.set_cons_zero, List.set_cons_succ, List.getElem_toArray, List.getElem_cons_zero, List.getElem_cons_succ]
            refine wpAnyH_ready (rs := [3]) (by kernel_rfl) (by simp) ?_
            refine AllReadyH.cons rfl (fun K hK => ?_) (AllReadyH.nil)
            go_simp
            refine (HMK.out _ (H4.out.here HSM.out)).mono ?_
            rintro e v5 ⟨⟨A4, rfl, C4, D4, VK4, VT4, hown⟩, hb⟩
            have R5 := Lib.hid hown
            have HBD : Hid (D0 ≤ v4.heap.size + 3) := Lib.hid (by have := E4.out; omega)
            have H5 := Lib.hid (H4.out.later hb)
            have P5 := Lib.hid ((hb.block _ (Array.getElem?_eq_some_iff.1 P4.out).1).trans P4.out)
            have Q5 := Lib.hid ((hb.block _ (Array.getElem?_eq_some_iff.1 Q4.out).1).trans Q4.out)
            have O5 := Lib.hid (O4.out.later hb)
            have E5 := Lib.hid (Nat.le_trans E4.out hb.size)
            clear hown hb
            refine hK.out _ _ ?_ (fun hHeld => ?_)
            · exact H5.out.smallc
            clear hK K
            try simp only [Act.put, List.setIfInBounds_toArray, List.set_cons_zero, List.set_cons_succ, List.getElem_toArray, List.getElem_cons_zero, List.getElem_cons_succ]
            obtain ⟨n0, n1, n2, n3, n4, n5, n6, n7, n8, nf⟩ := cells9 P5.out
            have PS := Lib.hid (storeI_blk (y0 := .int .i64 m.en) (y1 := .int .i64 m.tm) (y2 := .int .i64 m.tr) (y3 := .int .i64 m.bm) (y4 := .int .i64 m.br) (y5 := .slice A3.sa m.sats.length A3.sc) (y6 := .slice A3.ca m.cus.length A3.cc) (y7 := .slice A3.ka m.cost.length A3.kc) (y8 := .slice A3.ta m.time.length A3.tc) P5.out)
            have QS := Lib.hid ((storeI_other (y0 := .int .i64 m.en) (y1 := .int .i64 m.tm) (y2 := .int .i64 m.tr) (y3 := .int .i64 m.bm) (y4 := .int .i64 m.br) (y5 := .slice A3.sa m.sats.length A3.sc) (y6 := .slice A3.ca m.cus.length A3.cc) (y7 := .slice A3.ka m.cost.length A3.kc) (y8 := .slice A3.ta m.time.length A3.tc) (Ne.symm HNE.out)).trans Q5.out)
            have HS9 := Lib.hid (H5.out.mod (below_storeI (wr := v5) (y0 := .int .i64 m.en) (y1 := .int .i64 m.tm) (y2 := .int .i64 m.tr) (y3 := .int .i64 m.bm) (y4 := .int .i64 m.br) (y5 := .slice A3.sa m.sats.length A3.sc) (y6 := .slice A3.ca m.cus.length A3.cc) (y7 := .slice A3.ka m.cost.length A3.kc) (y8 := .slice A3.ta m.time.length A3.tc) HGga.out))
            have OS := Lib.hid (O5.out.storeI_ (y0 := .int .i64 m.en) (y1 := .int .i64 m.tm) (y2 := .int .i64 m.tr) (y3 := .int .i64 m.bm) (y4 := .int .i64 m.br) (y5 := .slice A3.sa m.sats.length A3.sc) (y6 := .slice A3.ca m.cus.length A3.cc) (y7 := .slice A3.ka m.cost.length A3.kc) (y8 := .slice A3.ta m.time.length A3.tc) P5.out)
            have RS := Lib.hid (R5.out.storeI_ (y0 := .int .i64 m.en) (y1 := .int .i64 m.tm) (y2 := .int .i64 m.tr) (y3 := .int .i64 m.bm) (y4 := .int .i64 m.br) (y5 := .slice A3.sa m.sats.length A3.sc) (y6 := .slice A3.ca m.cus.length A3.cc) (y7 := .slice A3.ka m.cost.length A3.kc) (y8 := .slice A3.ta m.time.length A3.tc) P5.out)
            refine wpAnyH_ready (rs := [6]) (by kernel_rfl) (by simp) ?_
            refine AllReadyH.cons rfl (fun K hK => ?_) (AllReadyH.nil)
            go_simp
            refine hK.out _ _ ?_ (fun hHeld => ?_)
            · exact HS9.out.smallc
            clear hK K
            try simp only [Act.put, List.setIfInBounds_toArray, List.set_cons_zero, List.set_cons_succ, List.getElem_toArray, List.getElem_cons_zero, List.getElem_cons_succ]
            clear n0 n1 n2 n3 n4 n5 n6 n7 n8 nf
            obtain ⟨v9, hv9⟩ : ∃ v9, storeI v5 ga (.int .i64 m.en) (.int .i64 m.tm) (.int .i64 m.tr) (.int .i64 m.bm) (.int .i64 m.br) (.slice A3.sa m.sats.length A3.sc) (.slice A3.ca m.cus.length A3.cc) (.slice A3.ka m.cost.length A3.kc) (.slice A3.ta m.time.length A3.tc) = v9 := ⟨_, rfl⟩
            rw [hv9] at PS QS HS9 OS RS
            unfold storeI at hv9
            rw [hv9] at hHeld ⊢
            clear hv9
            obtain ⟨n0, n1, n2, n3, n4, n5, n6, n7, n8, nf⟩ := cells9 QS.out
            have QT := Lib.hid (storeI_blk (y0 := .int .i64 m.en) (y1 := .int .i64 m.tm) (y2 := .int .i64 m.tr) (y3 := .int .i64 m.bm) (y4 := .int .i64 m.br) (y5 := .slice A4.sa m.sats.length A4.sc) (y6 := .slice A4.ca m.cus.length A4.cc) (y7 := .slice A4.ka m.cost.length A4.kc) (y8 := .slice A4.ta m.time.length A4.tc) QS.out)
            have PT := Lib.hid ((storeI_other (y0 := .int .i64 m.en) (y1 := .int .i64 m.tm) (y2 := .int .i64 m.tr) (y3 := .int .i64 m.bm) (y4 := .int .i64 m.br) (y5 := .slice A4.sa m.sats.length A4.sc) (y6 := .slice A4.ca m.cus.length A4.cc) (y7 := .slice A4.ka m.cost.length A4.kc) (y8 := .slice A4.ta m.time.length A4.tc) HNE.out).trans PS.out)
            have HT9 := Lib.hid (HS9.out.mod (below_storeI (wr := v9) (y0 := .int .i64 m.en) (y1 := .int .i64 m.tm) (y2 := .int .i64 m.tr) (y3 := .int .i64 m.bm) (y4 := .int .i64 m.br) (y5 := .slice A4.sa m.sats.length A4.sc) (y6 := .slice A4.ca m.cus.length A4.cc) (y7 := .slice A4.ka m.cost.length A4.kc) (y8 := .slice A4.ta m.time.length A4.tc) HGgb.out))
            have OT := Lib.hid (OS.out.storeI_ (y0 := .int .i64 m.en) (y1 := .int .i64 m.tm) (y2 := .int .i64 m.tr) (y3 := .int .i64 m.bm) (y4 := .int .i64 m.br) (y5 := .slice A4.sa m.sats.length A4.sc) (y6 := .slice A4.ca m.cus.length A4.cc) (y7 := .slice A4.ka m.cost.length A4.kc) (y8 := .slice A4.ta m.time.length A4.tc) QS.out)
            have RT := Lib.hid (RS.out.storeI_ (y0 := .int .i64 m.en) (y1 := .int .i64 m.tm) (y2 := .int .i64 m.tr) (y3 := .int .i64 m.bm) (y4 := .int .i64 m.br) (y5 := .slice A4.sa m.sats.length A4.sc) (y6 := .slice A4.ca m.cus.length A4.cc) (y7 := .slice A4.ka m.cost.length A4.kc) (y8 := .slice A4.ta m.time.length A4.tc) QS.out)
            refine wpAnyH_ready (rs := [7]) (by kernel_rfl) (by simp) ?_
            refine AllReadyH.cons rfl (fun K hK => ?_) (AllReadyH.nil)
            go_simp
            refine hK.out _ _ ?_ (fun hHeld => ?_)
            · exact HT9.out.smallc
            clear hK K
            try simp only [Act.put, List.setIfInBounds_toArray, List.set_cons_zero, List.set_cons_succ, List.getElem_toArray, List.getElem_cons_zero, List.getElem_cons_succ]
            refine wpAnyH_done (by kernel_rfl) ?_ _
            clear hHeld n0 n1 n2 n3 n4 n5 n6 n7 n8 nf
            go_wp2_with fail
            go_meet
            exact ⟨ga, gb, D0, A3, A4, _, C4, D4, VK4, VT4, _, _, rfl, rfl, ⟨HT9.out, PT.out, OT.out, HGga.out, HDG.out⟩, ⟨QT.out, RT.out, hn1, hn2.2, hn4.2⟩, HNE.out, HGgb.out, HBD.out⟩
      case rest =>
        obtain ⟨ga, gb, D0, A3, A4, B, C, D, VK, VT, LK, LT, hp, hq, hAW, hFr, hne, hgb, hDB⟩ := hcut
        subst hp hq
        have HAW := Lib.hid hAW
        have HF := Lib.hid hFr
        have HNE := Lib.hid hne
        have HGB := Lib.hid hgb
        have HDB := Lib.hid hDB
        clear hAW hFr hne hgb hDB
        try clear H33
        go_step
        go_step
        go_cut [] from 29 to 68 (fun wx => (∃ A5 m5, Fin wx gb A5 m5) ∧ AW w wx D0 ga A1 x A2 y A s A3 m)
        case first =>
          rcases (show what % 5 = 0 ∨ what % 5 = 1 ∨ what % 5 = 2 ∨ what % 5 = 3 ∨ what % 5 = 4 by omega) with hq | hq | hq | hq | hq
          · have hq2 : what.tmod 5 = 0 := by rw [Int.tmod_eq_emod_of_nonneg hw1.1]; exact hq
            obtain ⟨k0, k1, k2, k3, k4, k5, k6, k7, k8⟩ := HF.out.fin.cells
            have hfz := HF.out.frozen 0
            go_wp2_with fail
            go_meet
            exact ⟨⟨_, _, HF.out.put_en n⟩, HAW.out.box HF.out.box HGB.out HNE.out 0 (.int .i64 n)⟩
          · have hq2 : what.tmod 5 = 1 := by rw [Int.tmod_eq_emod_of_nonneg hw1.1]; exact hq
            obtain ⟨k0, k1, k2, k3, k4, k5, k6, k7, k8⟩ := HF.out.fin.cells
            obtain ⟨c, hc, hcN⟩ := mod_natS at_ m.cus.length (by omega) ha1.1
            have hc1 := hc.1
            have hc2 := hc.2
            clear hc
            obtain ⟨p, hp⟩ : ∃ p, m.cus[c]? = some p := ⟨_, List.getElem?_eq_getElem hcN⟩
            obtain ⟨g, hga, hc0, hf0, hfin⟩ := HF.out.put_cus3 hp n
            have hge := HF.out.cus_geS hga
            have hty : ga ≠ g := by
              have hcb := HF.out.own.cus
              rw [hga] at hcb
              obtain ⟨cur, hcur⟩ := own_block hcb (g := g) rfl
              exact blk_types HAW.out.a hcur (by decide)
            have HFIN := Lib.hid hfin
            have HAWN := Lib.hid (HAW.out.set_ (Nat.le_trans HDB.out hge) hty (c * 4 + 3) (.int .i64 n))
            rw [hga] at k6
            clear hfin hp hga hty
            go_upto_region 10 with fail
            go_region
            all_goals
              go_wp2_with fail
              go_meet
              exact ⟨⟨_, _, HFIN.out.later (Below.refl _ _).drew⟩, HAWN.out.later (Below.refl _ _).drew⟩
          · have hq2 : what.tmod 5 = 2 := by rw [Int.tmod_eq_emod_of_nonneg hw1.1]; exact hq
            obtain ⟨k0, k1, k2, k3, k4, k5, k6, k7, k8⟩ := HF.out.fin.cells
            obtain ⟨k, hk, hkN⟩ := mod_natS at_ N (by omega) ha1.1
            have hk1 := hk.1
            have hk2 := hk.2
            clear hk
            have hkl := HF.out.klen.2
            have HF5 := Lib.hid (HF.out.later (Below.refl _ wc).drew)
            have HAW5 := Lib.hid (HAW.out.later (Below.refl _ wc).drew)
            obtain ⟨g, hga, hc0, hc1, hf1⟩ := HF.out.own.time.cell_ (i := 0) (by omega) hkN
            have HGA := Lib.hid hga
            have HKL := Lib.hid hkl
            rw [hga] at k8
            have hpos : 0 < m.time.length := by omega
            clear hkl hga
            go_upto_region 12 with fail
            go_region_with (go_at_call 13; refine (nodesG A4 m N g HN6.out HGA.out _ (by omega)).mono ?_; rintro e w9 ⟨rfl, hb9⟩; have HF9 := Lib.hid (HF5.out.later hb9); have HAW9 := Lib.hid (HAW5.out.later hb9); obtain ⟨g', hga', hd0, hd1, hd2⟩ := HF9.out.own.time.cell_ (i := 0) (by omega) hkN; rw [HGA.out] at hga'; injection hga' with hga'; injection hga' with hga'; subst hga'; have q8 := HF9.out.fin.cells.2.2.2.2.2.2.2.2; rw [HGA.out] at q8; clear hb9)
            all_goals
              go_wp2_with fail
              go_meet
              exact ⟨⟨_, _, HF9.out.put_time (i := 0) (by omega) hkN n⟩, HAW9.out.set_ (Nat.le_trans HDB.out (HF9.out.vt_geS (i := 0) (by omega))) (by
                  obtain ⟨cur, hcur⟩ := rowIs_block (HF9.out.own.time.row 0 (by omega)).1
                  exact blk_types HAW9.out.a hcur (by decide)) k (.int .i64 n)⟩
          · have hq2 : what.tmod 5 = 3 := by rw [Int.tmod_eq_emod_of_nonneg hw1.1]; exact hq
            obtain ⟨k0, k1, k2, k3, k4, k5, k6, k7, k8⟩ := HF.out.fin.cells
            obtain ⟨i0, hi0, hz0, hz1, hz2⟩ := info_parts infoSatM
            have HF5 := Lib.hid (HF.out.later (below1 wc (.cells #[.int .i64 0, .int .i64 0] 42)))
            have HAW5 := Lib.hid (HAW.out.later (below1 wc (.cells #[.int .i64 0, .int .i64 0] 42)))
            have HBS : Hid (B ≤ (wc.alloc (.cells #[.int .i64 0, .int .i64 0] 42)).heap.size) := Lib.hid (by have h1 := HF5.out.vk_geS (i := 0) (by omega); have h2 := (HF5.out.own.cost.row 0 (by omega)).1.lt; omega)
            go_wp2_with (at_builtin; refine wpList_append_fresh rfl (.tmp 64) (.tmp 66) 24 rfl B 42 i0 _ 2 16 Try.underlying24 hi0 hz0 hz1 hz2 (by decide) (.slice A4.sa m.sats.length A4.sc) m.sats.length (flatS m.sats) rfl HF5.out.own.sats ⟨_, 0, none⟩ 1 (encS (0, 0)) rfl rfl (newsS_at _ (0, 0) _ _ (by simp)) (oneS _) (by unfold maxLen; omega) (by omega) HBS.out ?_; intro g4 cap4 w6 hown hgrow hfr; obtain ⟨hP, k5', kf⟩ := HF5.out.push_sat (p := (0, 0)) hown hgrow; have HP := Lib.hid hP; have HAW6 := Lib.hid (HAW5.out.mod (S := fun k => (Value.slice A4.sa m.sats.length A4.sc).ownBlock = some k) ((Mod.refl _ _).grown hgrow (fun k hk => .inr hk)) (fun k hk => Nat.le_trans HDB.out (World.ownsRow.lt HF5.out.own.sats k hk).1) (fun hk => by obtain ⟨cur, hcur⟩ := own_block HF5.out.own.sats hk; exact blk_types HAW5.out.a hcur (by decide) rfl)); have HB6 : Hid (∃ cb, w6.heap[gb]? = some (.cells cb 28 (0, 0))) := Lib.hid (by have hm := (Mod.refl (fun k => (Value.slice A4.sa m.sats.length A4.sc).ownBlock = some k) (wc.alloc (.cells #[.int .i64 0, .int .i64 0] 42))).grown hgrow (fun k hk => .inr hk); exact ⟨_, (hm.block gb (Array.getElem?_eq_some_iff.1 HF5.out.box).1 (fun hk => by obtain ⟨cur, hcur⟩ := own_block HF5.out.own.sats hk; exact blk_types HF5.out.box hcur (by decide) rfl)).trans HF5.out.box⟩); clear hown hgrow hfr hP)
            obtain ⟨cb6, hcb6⟩ := HB6.out
            go_meet
            exact ⟨⟨_, _, HP.out⟩, HAW6.out.box hcb6 HGB.out HNE.out 5 (.slice (some ⟨g4, 0, none⟩) (m.sats.length + 1) cap4)⟩
          · have hq2 : what.tmod 5 = 4 := by rw [Int.tmod_eq_emod_of_nonneg hw1.1]; exact hq
            obtain ⟨k0, k1, k2, k3, k4, k5, k6, k7, k8⟩ := HF.out.fin.cells
            go_wp2_with fail
            go_meet
            exact ⟨⟨_, _, HF.out.fin⟩, HAW.out⟩
        case rest =>
          obtain ⟨⟨A5x, m5x, hfx⟩, hax⟩ := hcut
          clear HF HAW
          go_wp2_with fail
          obtain ⟨W9, hW9⟩ : ∃ W9, wc = W9 := ⟨_, rfl⟩
          have hFin := hfx
          have hAW := hax
          rw [hW9] at hFin hAW ⊢
          obtain ⟨A5, m5, hFin⟩ : ∃ A5 m5, Fin W9 gb A5 m5 := ⟨_, _, hFin⟩
          clear hW9
          have HD0 := Lib.hid (hFin.later (Below.refl _ W9).drew)
          have HA0 := Lib.hid (hAW.later (Below.refl _ W9).drew)
          have HC0 := Lib.hid (cells36 HA0.out HD0.out)
          clear hFin hAW
          try clear HF HAW HFIN HAWN
          obtain ⟨⟨x0, x1, x2, x3, x4, x5, x6, x7, x8⟩, ⟨y0, y1, y2, y3, y4, y5, y6, y7, y8⟩, ⟨a0, a1, a2, a3, a4, a5, a6, a7, a8⟩, ⟨b0, b1, b2, b3, b4, b5, b6, b7, b8⟩⟩ := HC0.out
          have MA1 : True := trivial
          have MA2 : True := trivial
          have MB1 : True := trivial
          have MB2 : True := trivial
          have MC1 : True := trivial
          go_region_held3 (fun W => (W.cell? ⟨w.heap.size, 0, none⟩ = some (.int .i64 x.en) ∧ W.cell? ⟨w.heap.size, 1, none⟩ = some (.int .i64 x.tm) ∧ W.cell? ⟨w.heap.size, 2, none⟩ = some (.int .i64 x.tr) ∧ W.cell? ⟨w.heap.size, 3, none⟩ = some (.int .i64 x.bm) ∧ W.cell? ⟨w.heap.size, 4, none⟩ = some (.int .i64 x.br) ∧ W.cell? ⟨w.heap.size, 5, none⟩ = some (.slice A1.sa x.sats.length A1.sc) ∧ W.cell? ⟨w.heap.size, 6, none⟩ = some (.slice A1.ca x.cus.length A1.cc) ∧ W.cell? ⟨w.heap.size, 7, none⟩ = some (.slice A1.ka x.cost.length A1.kc) ∧ W.cell? ⟨w.heap.size, 8, none⟩ = some (.slice A1.ta x.time.length A1.tc)) ∧ (W.cell? ⟨w.heap.size + 1, 0, none⟩ = some (.int .i64 y.en) ∧ W.cell? ⟨w.heap.size + 1, 1, none⟩ = some (.int .i64 y.tm) ∧ W.cell? ⟨w.heap.size + 1, 2, none⟩ = some (.int .i64 y.tr) ∧ W.cell? ⟨w.heap.size + 1, 3, none⟩ = some (.int .i64 y.bm) ∧ W.cell? ⟨w.heap.size + 1, 4, none⟩ = some (.int .i64 y.br) ∧ W.cell? ⟨w.heap.size + 1, 5, none⟩ = some (.slice A2.sa y.sats.length A2.sc) ∧ W.cell? ⟨w.heap.size + 1, 6, none⟩ = some (.slice A2.ca y.cus.length A2.cc) ∧ W.cell? ⟨w.heap.size + 1, 7, none⟩ = some (.slice A2.ka y.cost.length A2.kc) ∧ W.cell? ⟨w.heap.size + 1, 8, none⟩ = some (.slice A2.ta y.time.length A2.tc)) ∧ (W.cell? ⟨ga, 0, none⟩ = some (.int .i64 m.en) ∧ W.cell? ⟨ga, 1, none⟩ = some (.int .i64 m.tm) ∧ W.cell? ⟨ga, 2, none⟩ = some (.int .i64 m.tr) ∧ W.cell? ⟨ga, 3, none⟩ = some (.int .i64 m.bm) ∧ W.cell? ⟨ga, 4, none⟩ = some (.int .i64 m.br) ∧ W.cell? ⟨ga, 5, none⟩ = some (.slice A3.sa m.sats.length A3.sc) ∧ W.cell? ⟨ga, 6, none⟩ = some (.slice A3.ca m.cus.length A3.cc) ∧ W.cell? ⟨ga, 7, none⟩ = some (.slice A3.ka m.cost.length A3.kc) ∧ W.cell? ⟨ga, 8, none⟩ = some (.slice A3.ta m.time.length A3.tc)) ∧ (W.cell? ⟨gb, 0, none⟩ = some (.int .i64 m5.en) ∧ W.cell? ⟨gb, 1, none⟩ = some (.int .i64 m5.tm) ∧ W.cell? ⟨gb, 2, none⟩ = some (.int .i64 m5.tr) ∧ W.cell? ⟨gb, 3, none⟩ = some (.int .i64 m5.bm) ∧ W.cell? ⟨gb, 4, none⟩ = some (.int .i64 m5.br) ∧ W.cell? ⟨gb, 5, none⟩ = some (.slice A5.sa m5.sats.length A5.sc) ∧ W.cell? ⟨gb, 6, none⟩ = some (.slice A5.ca m5.cus.length A5.cc) ∧ W.cell? ⟨gb, 7, none⟩ = some (.slice A5.ka m5.cost.length A5.kc) ∧ W.cell? ⟨gb, 8, none⟩ = some (.slice A5.ta m5.time.length A5.tc)))
            (first | assumption | exact HC0.out | exact HC1.out | exact HC2.out | exact HC3.out | exact HC4.out | exact HC5.out | exact HC6.out | exact HC7.out | exact HC8.out)
            (first
              | (go_at_call 17; clear MA1; refine (same_any A1 A2 x y _ (A0.out _ HA0.out.three).1 (A0.out _ HA0.out.three).2 hlx).mono ?_; rintro e u1 ⟨rfl, hb⟩; have HA1 := Lib.hid (HA0.out.later hb); have HD1 := Lib.hid (HD0.out.later hb); have HC1 := Lib.hid (cells36 HA1.out HD1.out); clear hb)
              | (go_at_call 18; clear MB1; refine (lawSame_any A1 A2 x y _ (A0.out _ HA1.out.three).1 (A0.out _ HA1.out.three).2 hlx).mono ?_; rintro e u2 ⟨rfl, hb⟩; have HA2 := Lib.hid (HA1.out.later hb); have HD2 := Lib.hid (HD1.out.later hb); have HC2 := Lib.hid (cells36 HA2.out HD2.out); clear hb)
              | (go_at_call 17; clear MA2; refine (same_any A3 A5 m m5 _ HA2.out.ao.is_ HD2.out.is_ HLM.out).mono ?_; rintro e u3 ⟨rfl, hb⟩; have HA3 := Lib.hid (HA2.out.later hb); have HD3 := Lib.hid (HD2.out.later hb); have HC3 := Lib.hid (cells36 HA3.out HD3.out); clear hb)
              | (go_at_call 18; clear MB2; refine (lawSame_any A3 A5 m m5 _ HA3.out.ao.is_ HD3.out.is_ HLM.out).mono ?_; rintro e u4 ⟨rfl, hb⟩; have HA4 := Lib.hid (HA3.out.later hb); have HD4 := Lib.hid (HD3.out.later hb); have HC4 := Lib.hid (cells36 HA4.out HD4.out); clear hb)
              | (go_at_call 19; clear MC1; refine (clone_any A1 x _ (A0.out _ HA4.out.three).1 hlx).mono ?_; rintro e u5 ⟨hb, A6, rfl, hclo⟩; have HI5 := Lib.hid (hclo.is_ hlx); have HA5 := Lib.hid (HA4.out.later hb); have HD5 := Lib.hid (HD4.out.later hb); have HC5 := Lib.hid (cells36 HA5.out HD5.out); clear hb hclo)
              | (go_at_call 17; refine (same_any A1 A6 x x _ (A0.out _ HA5.out.three).1 HI5.out hlx).mono ?_; rw [sameI_refl]; rintro e u6 ⟨rfl, hb⟩; have HA6 := Lib.hid (HA5.out.later hb); have HD6 := Lib.hid (HD5.out.later hb); have HC6 := Lib.hid (cells36 HA6.out HD6.out); clear hb)
              | (go_at_call 19; refine (clone_any A1 x _ (A0.out _ HA6.out.three).1 hlx).mono ?_; rintro e u7 ⟨hb, A7, rfl, hclo⟩; have HI7 := Lib.hid (hclo.is_ hlx); have HA7 := Lib.hid (HA6.out.later hb); have HD7 := Lib.hid (HD6.out.later hb); have HC7 := Lib.hid (cells36 HA7.out HD7.out); clear hb hclo)
              | (go_at_call 18; refine (lawSame_any A1 A7 x x _ (A0.out _ HA7.out.three).1 HI7.out hlx).mono ?_; rw [sameI_refl]; rintro e u8 ⟨rfl, hb⟩; have HA8 := Lib.hid (HA7.out.later hb); have HD8 := Lib.hid (HD7.out.later hb); have HC8 := Lib.hid (cells36 HA8.out HD8.out); clear hb))
          all_goals
            go_wp2_with fail
            go_ret
            exact ⟨rfl, HA8.out.three.below⟩
end Go.Proofs.Ytkapknfcepcijaa
