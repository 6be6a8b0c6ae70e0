/- The walk of the law on Check of an instance with one number another one (of package inst). -/
import Derived.Test.YtkapknfcepcijaaISetB
import Derived.Test.YtkapknfcepcijaaICode
import Derived.Deep.RegionHeld3
import Derived.Deep.CutRange
namespace Go.Proofs.Ytkapknfcepcijaa
open Go.RowKit

variable {w wr w2 : World} {A : InA} {x : Ins} {B N C D i k g gx : Nat} {VK VT : Nat → Nat} {LK LT : Nat → Nat → Int}
theorem Fresh.sat_ge (h : Fresh wr gx B A x N C D VK VT LK LT) (e : A.sa = some ⟨g, 0, none⟩) : B ≤ g := by
  have hs := h.own.sats
  rw [e] at hs
  exact (World.ownsRow.lt hs g rfl).1
theorem Fresh.cus_ge (h : Fresh wr gx B A x N C D VK VT LK LT) (e : A.ca = some ⟨g, 0, none⟩) : B ≤ g := by
  have hs := h.own.cus
  rw [e] at hs
  exact (World.ownsRow.lt hs g rfl).1
theorem Fresh.vk_ge (h : Fresh wr gx B A x N C D VK VT LK LT) (hi : i < N) : B ≤ VK i := Nat.le_trans h.own.bc (h.own.cost.row i hi).2
theorem Fresh.vt_ge (h : Fresh wr gx B A x N C D VK VT LK LT) (hi : i < N) : B ≤ VT i := Nat.le_trans h.own.bc (Nat.le_trans h.own.cd (h.own.time.row i hi).2)
theorem Fresh.ka_ge (h : Fresh wr gx B A x N C D VK VT LK LT) (e : A.ka = some ⟨g, 0, none⟩) : B ≤ g := by
  have hs := h.own.cost.outer
  rw [e] at hs
  exact Nat.le_trans h.own.bc (World.ownsRow.lt hs g rfl).1
/-- What the law on Check has: its instance. -/
structure FW (w wr : World) (gx B : Nat) (A : InA) (x : Ins) (N C D : Nat) (VK VT : Nat → Nat) (LK LT : Nat → Nat → Int) : Prop where
  below : Below w.heap.size w wr
  fr : Fresh wr gx B A x N C D VK VT LK LT
  b : w.heap.size + 1 ≤ B
  gx : w.heap.size + 1 ≤ gx
theorem FW.later (h : FW w wr gx B A x N C D VK VT LK LT) (hb : Below wr.heap.size wr w2) : FW w w2 gx B A x N C D VK VT LK LT := ⟨h.below.trans (hb.mono h.below.size), h.fr.later hb, h.b, h.gx⟩
/-- A byte modulo some. -/
theorem mod_nat (a : Int) (n : Nat) (h : 0 < n) (ha : 0 ≤ a) : ∃ k : Nat, (a.tmod (n : Int) = (k : Int) ∧ a % (n : Int) = (k : Int)) ∧ k < n := by
  rw [Int.tmod_eq_emod_of_nonneg ha]
  have h1 := Int.emod_nonneg a (show (n : Int) ≠ 0 by omega)
  have h2 := Int.emod_lt_of_pos a (show (0 : Int) < (n : Int) by omega)
  exact ⟨(a % (n : Int)).toNat, ⟨by omega, by omega⟩, by omega⟩
set_option maxHeartbeats 8000000 in
set_option maxRecDepth 100000 in
theorem instSpoilt_walk (A0 : SmA) (s : Sm) (what at_ by_ n : Int) (hw1 : 0 ≤ what ∧ what ≤ 255) (ha1 : 0 ≤ at_ ∧ at_ ≤ 255) (hb1 : 0 ≤ by_ ∧ by_ ≤ 255) (w : World) (hs : IsSm w.heap.size w A0 s) :
    Calls Try.prog 4 #[.agg (smC A0 s), .int .u8 what, .int .u8 at_, .int .u8 by_, .int .i64 n] w fun e w' => e = .returned (.bool true) ∧ Below w.heap.size w w' := by
  have HS := Lib.hid (SBox.make w A0 s)
  have HSM := Lib.hid hs
  have hlg := makeI_light s
  have hok := makeI_ok hs.okl
  have hn1 : 1 ≤ (makeI s).sats.length ∧ (makeI s).sats.length ≤ 3 := satsOf_le s
  have hn2 : 1 ≤ (makeI s).cus.length ∧ (makeI s).cus.length ≤ 6 := cusOf_le s
  have hn4 : 3 ≤ nodesOf s ∧ nodesOf s ≤ 10 := nodes_le s
  have hn5 : (makeI s).nodes = nodesOf s := rfl
  have HMK := Lib.hid (fun (W : World) (h : IsSm W.heap.size W A0 s) => make_any A0 s W h)
  obtain ⟨x, hx⟩ : ∃ x, makeI s = x := ⟨_, rfl⟩
  obtain ⟨N, hN⟩ : ∃ N, nodesOf s = N := ⟨_, rfl⟩
  obtain ⟨LK, hLK⟩ : ∃ LK, sqE s.cost N = LK := ⟨_, rfl⟩
  obtain ⟨LT, hLT⟩ : ∃ LT, sqE s.time N = LT := ⟨_, rfl⟩
  rw [hx] at hlg hok hn1 hn2 hn5 HMK
  rw [hN] at hn4 hn5 HMK
  rw [hLK, hLT] at HMK
  have HN5 := Lib.hid hn5
  have HOK := Lib.hid hok
  have HLG := Lib.hid hlg
  clear hx hN hs hok hlg hLK hLT hn5
  obtain ⟨i, hi, hiN⟩ := mod_nat at_ N (by omega) ha1.1
  obtain ⟨k, hk, hkN⟩ := mod_nat by_ N (by omega) hb1.1
  obtain ⟨c, hc, hcN⟩ := mod_nat at_ x.cus.length (by omega) ha1.1
  obtain ⟨t, ht, htN⟩ := mod_nat at_ x.sats.length (by omega) ha1.1
  have HMI := Lib.hid hi
  have HMK2 := Lib.hid hk
  have HMC := Lib.hid hc
  have HMT := Lib.hid ht
  clear hi hk hc ht
  unfold smC at *
  go_enter Try.func4, Try.ntmps4
  go_wp2_with (first
    | (go_at_call 8; refine (inst_awake _).mono ?_; rintro e w1 ⟨rfl, hb1⟩; have HS1 := Lib.hid (HS.out.later hb1); obtain ⟨j0, j1, j2, j3, j4, j5, j6, j7, j8, j9, j10⟩ := HS1.out.cells; clear hb1)
    | (go_at_call 12; refine (HMK.out _ (HS1.out.here HSM.out)).mono ?_; rintro e w2 ⟨⟨A, rfl, C, D, VK, VT, hown⟩, hb2⟩; have HF3 : Hid (FW w (w2.alloc (.cells (insC A x) 28)) w2.heap.size (w1.heap.size + 3) A x N C D VK VT LK LT) := Lib.hid (by
          have hq := below1 w2 (.cells (insC A x) 28)
          have hl := (Array.getElem?_eq_some_iff.1 HS1.out.blk).1
          have hz := hb2.size
          exact ⟨(HS1.out.below.trans (hb2.mono HS1.out.below.size)).trans (hq.mono (by omega)), ⟨heap_alloc_new _ _, hown.later hq, hn1.2, hn2.2, hn4.2⟩, by omega, by omega⟩); clear hown hb2 j0 j1 j2 j3 j4 j5 j6 j7 j8 j9 j10)
    | (go_at_call 10; refine (check_any A x _ HF3.out.fr.own.is_ HLG.out).mono ?_; rw [HOK.out]; rintro e w4 ⟨rfl, hb4⟩; have HF4 := Lib.hid (HF3.out.later hb4); clear hb4))
  obtain ⟨gx, hgx⟩ : ∃ gx, w2.heap.size = gx := ⟨_, rfl⟩
  obtain ⟨B, hB⟩ : ∃ B, w1.heap.size + 3 = B := ⟨_, rfl⟩
  rw [hgx, hB] at HF4
  try rw [hgx]
  clear hgx hB HF3 HS1 HS HSM HMK
  go_upto_region 6 with fail
  go_cut [12, 13] from 23 to 32 (fun p q wx => p = .int .i64 (i : Int) ∧ q = .int .i64 (k : Int) ∧ FW w wx gx B A x N C D VK VT LK LT)
  case first =>
    have HF5 := Lib.hid (HF4.out.later (Below.refl _ w4).drew)
    have hmi := HMI.out
    have hmk := HMK2.out
    obtain ⟨k0, k1, k2, k3, k4, k5, k6, k7, k8⟩ := HF5.out.fr.fin.cells
    have MK : True := trivial
    go_region_with (first
      | (go_at_call 13; clear MK; refine (nodesN A x N HN5.out _ (by omega)).mono ?_; rintro e w6 ⟨rfl, hb6⟩; have HF6 := Lib.hid (HF5.out.later hb6); clear hb6 k0 k1 k2 k3 k4 k5 k6 k7 k8; obtain ⟨k0, k1, k2, k3, k4, k5, k6, k7, k8⟩ := HF6.out.fr.fin.cells)
      | (go_at_call 13; refine (nodesN A x N HN5.out _ (by omega)).mono ?_; rintro e w7 ⟨rfl, hb7⟩; have HF7 := Lib.hid (HF6.out.later hb7); clear hb7))
    all_goals
      go_wp2_with fail
      go_meet
      exact ⟨by first | exact (by simp) | exact (by simp [hmi.1]) | exact (by simp [hmi.2]), by first | exact (by simp) | exact (by simp [hmk.1]) | exact (by simp [hmk.2]), HF7.out⟩
  case rest =>
    obtain ⟨hp, hq, hF⟩ := hcut
    subst hp hq
    have HF7 := Lib.hid hF
    clear hF HF4
    go_upto_region 7 with fail
    go_cut [14, 15] from 33 to 44 (fun p q wx => p = .int .i64 (c : Int) ∧ q = .int .i64 (t : Int) ∧ FW w wx gx B A x N C D VK VT LK LT)
    case first =>
      have HF8 := Lib.hid (HF7.out.later (Below.refl _ wc).drew)
      have hmc := HMC.out
      have hmt := HMT.out
      obtain ⟨k0, k1, k2, k3, k4, k5, k6, k7, k8⟩ := HF7.out.fr.fin.cells
      go_region
      all_goals
        go_wp2_with fail
        go_meet
        exact ⟨by first | exact (by simp) | exact (by simp [hmc.1]) | exact (by simp [hmc.2]), by first | exact (by simp) | exact (by simp [hmt.1]) | exact (by simp [hmt.2]), HF8.out⟩
    case rest =>
      obtain ⟨hp, hq, hF⟩ := hcut
      subst hp hq
      have HF := Lib.hid hF
      clear hF HF7 HMI HMK2 HMC HMT HN5 HOK HLG
      rcases (show what % 16 = 0 ∨ what % 16 = 1 ∨ what % 16 = 2 ∨ what % 16 = 3 ∨ what % 16 = 4 ∨ what % 16 = 5 ∨ what % 16 = 6 ∨ what % 16 = 7 ∨ what % 16 = 8 ∨ what % 16 = 9 ∨ what % 16 = 10 ∨ what % 16 = 11 ∨ what % 16 = 12 ∨ what % 16 = 13 ∨ what % 16 = 14 ∨ what % 16 = 15 by omega) with hq | hq | hq | hq | hq | hq | hq | hq | hq | hq | hq | hq | hq | hq | hq | hq
      · have hq2 : what.tmod 16 = 0 := by rw [Int.tmod_eq_emod_of_nonneg hw1.1]; exact hq
        obtain ⟨k0, k1, k2, k3, k4, k5, k6, k7, k8⟩ := HF.out.fr.fin.cells
        have hfz := HF.out.fr.frozen 0
        go_wp2_with fail
        clear k0 k1 k2 k3 k4 k5 k6 k7 k8 hfz
        obtain ⟨W9, hW9⟩ : ∃ W9, wc.setCell ⟨gx, 0, none⟩ (.int .i64 n) = W9 := ⟨_, rfl⟩
        have hFin := HF.out.fr.put_en n
        have hBel := HF.out.below.setCell (p := ⟨gx, 0, none⟩) (Nat.le_trans (Nat.le_succ _) HF.out.gx) (.int .i64 n)
        rw [hW9] at hFin hBel ⊢
        obtain ⟨A5, m, hFin⟩ : ∃ A5 m, Fin W9 gx A5 m := ⟨_, _, hFin⟩
        clear hW9
        have HD := Lib.hid (hFin.later (Below.refl _ W9).drew)
        have HBD := Lib.hid (hBel.trans ((Below.refl _ W9).drew.mono hBel.size))
        clear hFin hBel
        try clear HF
        obtain ⟨k0, k1, k2, k3, k4, k5, k6, k7, k8⟩ := HD.out.cells
        go_region_held3 (fun W => W.cell? ⟨gx, 0, none⟩ = some (.int .i64 m.en) ∧ W.cell? ⟨gx, 1, none⟩ = some (.int .i64 m.tm) ∧ W.cell? ⟨gx, 2, none⟩ = some (.int .i64 m.tr) ∧ W.cell? ⟨gx, 3, none⟩ = some (.int .i64 m.bm) ∧ W.cell? ⟨gx, 4, none⟩ = some (.int .i64 m.br) ∧ W.cell? ⟨gx, 5, none⟩ = some (.slice A5.sa m.sats.length A5.sc) ∧ W.cell? ⟨gx, 6, none⟩ = some (.slice A5.ca m.cus.length A5.cc) ∧ W.cell? ⟨gx, 7, none⟩ = some (.slice A5.ka m.cost.length A5.kc) ∧ W.cell? ⟨gx, 8, none⟩ = some (.slice A5.ta m.time.length A5.tc))
          (first | assumption | exact HD.out.cells | exact HD1.out.cells | exact HD2.out.cells)
          (first
            | (go_at_call 10; refine (check_any A5 m _ HD.out.is_ HD.out.light).mono ?_; rintro e w8 ⟨rfl, hb8⟩; have HD1 := Lib.hid (HD.out.later hb8); have HB1 := Lib.hid (HBD.out.trans (hb8.mono HBD.out.size)); clear hb8)
            | (go_at_call 11; refine (code_any A5 m _ HD1.out.is_ HD1.out.light).mono ?_; rintro e w9 ⟨rfl, hb9⟩; have HD2 := Lib.hid (HD1.out.later hb9); have HB2 := Lib.hid (HB1.out.trans (hb9.mono HB1.out.size)); clear hb9))
        all_goals
          go_wp2_with fail
          go_ret
          exact ⟨rfl, HB2.out⟩
      · have hq2 : what.tmod 16 = 1 := by rw [Int.tmod_eq_emod_of_nonneg hw1.1]; exact hq
        obtain ⟨k0, k1, k2, k3, k4, k5, k6, k7, k8⟩ := HF.out.fr.fin.cells
        have hfz := HF.out.fr.frozen 1
        go_wp2_with fail
        clear k0 k1 k2 k3 k4 k5 k6 k7 k8 hfz
        obtain ⟨W9, hW9⟩ : ∃ W9, wc.setCell ⟨gx, 1, none⟩ (.int .i64 n) = W9 := ⟨_, rfl⟩
        have hFin := HF.out.fr.put_tm n
        have hBel := HF.out.below.setCell (p := ⟨gx, 1, none⟩) (Nat.le_trans (Nat.le_succ _) HF.out.gx) (.int .i64 n)
        rw [hW9] at hFin hBel ⊢
        obtain ⟨A5, m, hFin⟩ : ∃ A5 m, Fin W9 gx A5 m := ⟨_, _, hFin⟩
        clear hW9
        have HD := Lib.hid (hFin.later (Below.refl _ W9).drew)
        have HBD := Lib.hid (hBel.trans ((Below.refl _ W9).drew.mono hBel.size))
        clear hFin hBel
        try clear HF
        obtain ⟨k0, k1, k2, k3, k4, k5, k6, k7, k8⟩ := HD.out.cells
        go_region_held3 (fun W => W.cell? ⟨gx, 0, none⟩ = some (.int .i64 m.en) ∧ W.cell? ⟨gx, 1, none⟩ = some (.int .i64 m.tm) ∧ W.cell? ⟨gx, 2, none⟩ = some (.int .i64 m.tr) ∧ W.cell? ⟨gx, 3, none⟩ = some (.int .i64 m.bm) ∧ W.cell? ⟨gx, 4, none⟩ = some (.int .i64 m.br) ∧ W.cell? ⟨gx, 5, none⟩ = some (.slice A5.sa m.sats.length A5.sc) ∧ W.cell? ⟨gx, 6, none⟩ = some (.slice A5.ca m.cus.length A5.cc) ∧ W.cell? ⟨gx, 7, none⟩ = some (.slice A5.ka m.cost.length A5.kc) ∧ W.cell? ⟨gx, 8, none⟩ = some (.slice A5.ta m.time.length A5.tc))
          (first | assumption | exact HD.out.cells | exact HD1.out.cells | exact HD2.out.cells)
          (first
            | (go_at_call 10; refine (check_any A5 m _ HD.out.is_ HD.out.light).mono ?_; rintro e w8 ⟨rfl, hb8⟩; have HD1 := Lib.hid (HD.out.later hb8); have HB1 := Lib.hid (HBD.out.trans (hb8.mono HBD.out.size)); clear hb8)
            | (go_at_call 11; refine (code_any A5 m _ HD1.out.is_ HD1.out.light).mono ?_; rintro e w9 ⟨rfl, hb9⟩; have HD2 := Lib.hid (HD1.out.later hb9); have HB2 := Lib.hid (HB1.out.trans (hb9.mono HB1.out.size)); clear hb9))
        all_goals
          go_wp2_with fail
          go_ret
          exact ⟨rfl, HB2.out⟩
      · have hq2 : what.tmod 16 = 2 := by rw [Int.tmod_eq_emod_of_nonneg hw1.1]; exact hq
        obtain ⟨k0, k1, k2, k3, k4, k5, k6, k7, k8⟩ := HF.out.fr.fin.cells
        have hfz := HF.out.fr.frozen 2
        go_wp2_with fail
        clear k0 k1 k2 k3 k4 k5 k6 k7 k8 hfz
        obtain ⟨W9, hW9⟩ : ∃ W9, wc.setCell ⟨gx, 2, none⟩ (.int .i64 n) = W9 := ⟨_, rfl⟩
        have hFin := HF.out.fr.put_tr n
        have hBel := HF.out.below.setCell (p := ⟨gx, 2, none⟩) (Nat.le_trans (Nat.le_succ _) HF.out.gx) (.int .i64 n)
        rw [hW9] at hFin hBel ⊢
        obtain ⟨A5, m, hFin⟩ : ∃ A5 m, Fin W9 gx A5 m := ⟨_, _, hFin⟩
        clear hW9
        have HD := Lib.hid (hFin.later (Below.refl _ W9).drew)
        have HBD := Lib.hid (hBel.trans ((Below.refl _ W9).drew.mono hBel.size))
        clear hFin hBel
        try clear HF
        obtain ⟨k0, k1, k2, k3, k4, k5, k6, k7, k8⟩ := HD.out.cells
        go_region_held3 (fun W => W.cell? ⟨gx, 0, none⟩ = some (.int .i64 m.en) ∧ W.cell? ⟨gx, 1, none⟩ = some (.int .i64 m.tm) ∧ W.cell? ⟨gx, 2, none⟩ = some (.int .i64 m.tr) ∧ W.cell? ⟨gx, 3, none⟩ = some (.int .i64 m.bm) ∧ W.cell? ⟨gx, 4, none⟩ = some (.int .i64 m.br) ∧ W.cell? ⟨gx, 5, none⟩ = some (.slice A5.sa m.sats.length A5.sc) ∧ W.cell? ⟨gx, 6, none⟩ = some (.slice A5.ca m.cus.length A5.cc) ∧ W.cell? ⟨gx, 7, none⟩ = some (.slice A5.ka m.cost.length A5.kc) ∧ W.cell? ⟨gx, 8, none⟩ = some (.slice A5.ta m.time.length A5.tc))
          (first | assumption | exact HD.out.cells | exact HD1.out.cells | exact HD2.out.cells)
          (first
            | (go_at_call 10; refine (check_any A5 m _ HD.out.is_ HD.out.light).mono ?_; rintro e w8 ⟨rfl, hb8⟩; have HD1 := Lib.hid (HD.out.later hb8); have HB1 := Lib.hid (HBD.out.trans (hb8.mono HBD.out.size)); clear hb8)
            | (go_at_call 11; refine (code_any A5 m _ HD1.out.is_ HD1.out.light).mono ?_; rintro e w9 ⟨rfl, hb9⟩; have HD2 := Lib.hid (HD1.out.later hb9); have HB2 := Lib.hid (HB1.out.trans (hb9.mono HB1.out.size)); clear hb9))
        all_goals
          go_wp2_with fail
          go_ret
          exact ⟨rfl, HB2.out⟩
      · have hq2 : what.tmod 16 = 3 := by rw [Int.tmod_eq_emod_of_nonneg hw1.1]; exact hq
        obtain ⟨k0, k1, k2, k3, k4, k5, k6, k7, k8⟩ := HF.out.fr.fin.cells
        have hfz := HF.out.fr.frozen 3
        go_wp2_with fail
        clear k0 k1 k2 k3 k4 k5 k6 k7 k8 hfz
        obtain ⟨W9, hW9⟩ : ∃ W9, wc.setCell ⟨gx, 3, none⟩ (.int .i64 n) = W9 := ⟨_, rfl⟩
        have hFin := HF.out.fr.put_bm n
        have hBel := HF.out.below.setCell (p := ⟨gx, 3, none⟩) (Nat.le_trans (Nat.le_succ _) HF.out.gx) (.int .i64 n)
        rw [hW9] at hFin hBel ⊢
        obtain ⟨A5, m, hFin⟩ : ∃ A5 m, Fin W9 gx A5 m := ⟨_, _, hFin⟩
        clear hW9
        have HD := Lib.hid (hFin.later (Below.refl _ W9).drew)
        have HBD := Lib.hid (hBel.trans ((Below.refl _ W9).drew.mono hBel.size))
        clear hFin hBel
        try clear HF
        obtain ⟨k0, k1, k2, k3, k4, k5, k6, k7, k8⟩ := HD.out.cells
        go_region_held3 (fun W => W.cell? ⟨gx, 0, none⟩ = some (.int .i64 m.en) ∧ W.cell? ⟨gx, 1, none⟩ = some (.int .i64 m.tm) ∧ W.cell? ⟨gx, 2, none⟩ = some (.int .i64 m.tr) ∧ W.cell? ⟨gx, 3, none⟩ = some (.int .i64 m.bm) ∧ W.cell? ⟨gx, 4, none⟩ = some (.int .i64 m.br) ∧ W.cell? ⟨gx, 5, none⟩ = some (.slice A5.sa m.sats.length A5.sc) ∧ W.cell? ⟨gx, 6, none⟩ = some (.slice A5.ca m.cus.length A5.cc) ∧ W.cell? ⟨gx, 7, none⟩ = some (.slice A5.ka m.cost.length A5.kc) ∧ W.cell? ⟨gx, 8, none⟩ = some (.slice A5.ta m.time.length A5.tc))
          (first | assumption | exact HD.out.cells | exact HD1.out.cells | exact HD2.out.cells)
          (first
            | (go_at_call 10; refine (check_any A5 m _ HD.out.is_ HD.out.light).mono ?_; rintro e w8 ⟨rfl, hb8⟩; have HD1 := Lib.hid (HD.out.later hb8); have HB1 := Lib.hid (HBD.out.trans (hb8.mono HBD.out.size)); clear hb8)
            | (go_at_call 11; refine (code_any A5 m _ HD1.out.is_ HD1.out.light).mono ?_; rintro e w9 ⟨rfl, hb9⟩; have HD2 := Lib.hid (HD1.out.later hb9); have HB2 := Lib.hid (HB1.out.trans (hb9.mono HB1.out.size)); clear hb9))
        all_goals
          go_wp2_with fail
          go_ret
          exact ⟨rfl, HB2.out⟩
      · have hq2 : what.tmod 16 = 4 := by rw [Int.tmod_eq_emod_of_nonneg hw1.1]; exact hq
        obtain ⟨k0, k1, k2, k3, k4, k5, k6, k7, k8⟩ := HF.out.fr.fin.cells
        have hfz := HF.out.fr.frozen 4
        go_wp2_with fail
        clear k0 k1 k2 k3 k4 k5 k6 k7 k8 hfz
        obtain ⟨W9, hW9⟩ : ∃ W9, wc.setCell ⟨gx, 4, none⟩ (.int .i64 n) = W9 := ⟨_, rfl⟩
        have hFin := HF.out.fr.put_br n
        have hBel := HF.out.below.setCell (p := ⟨gx, 4, none⟩) (Nat.le_trans (Nat.le_succ _) HF.out.gx) (.int .i64 n)
        rw [hW9] at hFin hBel ⊢
        obtain ⟨A5, m, hFin⟩ : ∃ A5 m, Fin W9 gx A5 m := ⟨_, _, hFin⟩
        clear hW9
        have HD := Lib.hid (hFin.later (Below.refl _ W9).drew)
        have HBD := Lib.hid (hBel.trans ((Below.refl _ W9).drew.mono hBel.size))
        clear hFin hBel
        try clear HF
        obtain ⟨k0, k1, k2, k3, k4, k5, k6, k7, k8⟩ := HD.out.cells
        go_region_held3 (fun W => W.cell? ⟨gx, 0, none⟩ = some (.int .i64 m.en) ∧ W.cell? ⟨gx, 1, none⟩ = some (.int .i64 m.tm) ∧ W.cell? ⟨gx, 2, none⟩ = some (.int .i64 m.tr) ∧ W.cell? ⟨gx, 3, none⟩ = some (.int .i64 m.bm) ∧ W.cell? ⟨gx, 4, none⟩ = some (.int .i64 m.br) ∧ W.cell? ⟨gx, 5, none⟩ = some (.slice A5.sa m.sats.length A5.sc) ∧ W.cell? ⟨gx, 6, none⟩ = some (.slice A5.ca m.cus.length A5.cc) ∧ W.cell? ⟨gx, 7, none⟩ = some (.slice A5.ka m.cost.length A5.kc) ∧ W.cell? ⟨gx, 8, none⟩ = some (.slice A5.ta m.time.length A5.tc))
          (first | assumption | exact HD.out.cells | exact HD1.out.cells | exact HD2.out.cells)
          (first
            | (go_at_call 10; refine (check_any A5 m _ HD.out.is_ HD.out.light).mono ?_; rintro e w8 ⟨rfl, hb8⟩; have HD1 := Lib.hid (HD.out.later hb8); have HB1 := Lib.hid (HBD.out.trans (hb8.mono HBD.out.size)); clear hb8)
            | (go_at_call 11; refine (code_any A5 m _ HD1.out.is_ HD1.out.light).mono ?_; rintro e w9 ⟨rfl, hb9⟩; have HD2 := Lib.hid (HD1.out.later hb9); have HB2 := Lib.hid (HB1.out.trans (hb9.mono HB1.out.size)); clear hb9))
        all_goals
          go_wp2_with fail
          go_ret
          exact ⟨rfl, HB2.out⟩
      · have hq2 : what.tmod 16 = 5 := by rw [Int.tmod_eq_emod_of_nonneg hw1.1]; exact hq
        obtain ⟨k0, k1, k2, k3, k4, k5, k6, k7, k8⟩ := HF.out.fr.fin.cells
        obtain ⟨p, hp⟩ : ∃ p, x.sats[t]? = some p := ⟨_, List.getElem?_eq_getElem htN⟩
        obtain ⟨g, hga, hc0, hf0, hfin⟩ := HF.out.fr.put_sat0 hp n
        have hge := HF.out.fr.sat_ge hga
        have HFIN := Lib.hid hfin
        rw [hga] at k5
        clear hfin hp
        go_wp2_with fail
        clear k0 k1 k2 k3 k4 k5 k6 k7 k8 hc0 hf0
        obtain ⟨W9, hW9⟩ : ∃ W9, wc.setCell ⟨g, t * 2, none⟩ (.int .i64 n) = W9 := ⟨_, rfl⟩
        have hFin := HFIN.out
        have hBel := HF.out.below.setCell (p := ⟨g, t * 2, none⟩) (by have := HF.out.b; show w.heap.size ≤ g; omega) (.int .i64 n)
        rw [hW9] at hFin hBel ⊢
        obtain ⟨A5, m, hFin⟩ : ∃ A5 m, Fin W9 gx A5 m := ⟨_, _, hFin⟩
        clear hW9
        have HD := Lib.hid (hFin.later (Below.refl _ W9).drew)
        have HBD := Lib.hid (hBel.trans ((Below.refl _ W9).drew.mono hBel.size))
        clear hFin hBel
        try clear HF
        obtain ⟨k0, k1, k2, k3, k4, k5, k6, k7, k8⟩ := HD.out.cells
        go_region_held3 (fun W => W.cell? ⟨gx, 0, none⟩ = some (.int .i64 m.en) ∧ W.cell? ⟨gx, 1, none⟩ = some (.int .i64 m.tm) ∧ W.cell? ⟨gx, 2, none⟩ = some (.int .i64 m.tr) ∧ W.cell? ⟨gx, 3, none⟩ = some (.int .i64 m.bm) ∧ W.cell? ⟨gx, 4, none⟩ = some (.int .i64 m.br) ∧ W.cell? ⟨gx, 5, none⟩ = some (.slice A5.sa m.sats.length A5.sc) ∧ W.cell? ⟨gx, 6, none⟩ = some (.slice A5.ca m.cus.length A5.cc) ∧ W.cell? ⟨gx, 7, none⟩ = some (.slice A5.ka m.cost.length A5.kc) ∧ W.cell? ⟨gx, 8, none⟩ = some (.slice A5.ta m.time.length A5.tc))
          (first | assumption | exact HD.out.cells | exact HD1.out.cells | exact HD2.out.cells)
          (first
            | (go_at_call 10; refine (check_any A5 m _ HD.out.is_ HD.out.light).mono ?_; rintro e w8 ⟨rfl, hb8⟩; have HD1 := Lib.hid (HD.out.later hb8); have HB1 := Lib.hid (HBD.out.trans (hb8.mono HBD.out.size)); clear hb8)
            | (go_at_call 11; refine (code_any A5 m _ HD1.out.is_ HD1.out.light).mono ?_; rintro e w9 ⟨rfl, hb9⟩; have HD2 := Lib.hid (HD1.out.later hb9); have HB2 := Lib.hid (HB1.out.trans (hb9.mono HB1.out.size)); clear hb9))
        all_goals
          go_wp2_with fail
          go_ret
          exact ⟨rfl, HB2.out⟩
      · have hq2 : what.tmod 16 = 6 := by rw [Int.tmod_eq_emod_of_nonneg hw1.1]; exact hq
        obtain ⟨k0, k1, k2, k3, k4, k5, k6, k7, k8⟩ := HF.out.fr.fin.cells
        obtain ⟨p, hp⟩ : ∃ p, x.sats[t]? = some p := ⟨_, List.getElem?_eq_getElem htN⟩
        obtain ⟨g, hga, hc0, hf0, hfin⟩ := HF.out.fr.put_sat1 hp n
        have hge := HF.out.fr.sat_ge hga
        have HFIN := Lib.hid hfin
        rw [hga] at k5
        clear hfin hp
        go_wp2_with fail
        clear k0 k1 k2 k3 k4 k5 k6 k7 k8 hc0 hf0
        obtain ⟨W9, hW9⟩ : ∃ W9, wc.setCell ⟨g, t * 2 + 1, none⟩ (.int .i64 n) = W9 := ⟨_, rfl⟩
        have hFin := HFIN.out
        have hBel := HF.out.below.setCell (p := ⟨g, t * 2 + 1, none⟩) (by have := HF.out.b; show w.heap.size ≤ g; omega) (.int .i64 n)
        rw [hW9] at hFin hBel ⊢
        obtain ⟨A5, m, hFin⟩ : ∃ A5 m, Fin W9 gx A5 m := ⟨_, _, hFin⟩
        clear hW9
        have HD := Lib.hid (hFin.later (Below.refl _ W9).drew)
        have HBD := Lib.hid (hBel.trans ((Below.refl _ W9).drew.mono hBel.size))
        clear hFin hBel
        try clear HF
        obtain ⟨k0, k1, k2, k3, k4, k5, k6, k7, k8⟩ := HD.out.cells
        go_region_held3 (fun W => W.cell? ⟨gx, 0, none⟩ = some (.int .i64 m.en) ∧ W.cell? ⟨gx, 1, none⟩ = some (.int .i64 m.tm) ∧ W.cell? ⟨gx, 2, none⟩ = some (.int .i64 m.tr) ∧ W.cell? ⟨gx, 3, none⟩ = some (.int .i64 m.bm) ∧ W.cell? ⟨gx, 4, none⟩ = some (.int .i64 m.br) ∧ W.cell? ⟨gx, 5, none⟩ = some (.slice A5.sa m.sats.length A5.sc) ∧ W.cell? ⟨gx, 6, none⟩ = some (.slice A5.ca m.cus.length A5.cc) ∧ W.cell? ⟨gx, 7, none⟩ = some (.slice A5.ka m.cost.length A5.kc) ∧ W.cell? ⟨gx, 8, none⟩ = some (.slice A5.ta m.time.length A5.tc))
          (first | assumption | exact HD.out.cells | exact HD1.out.cells | exact HD2.out.cells)
          (first
            | (go_at_call 10; refine (check_any A5 m _ HD.out.is_ HD.out.light).mono ?_; rintro e w8 ⟨rfl, hb8⟩; have HD1 := Lib.hid (HD.out.later hb8); have HB1 := Lib.hid (HBD.out.trans (hb8.mono HBD.out.size)); clear hb8)
            | (go_at_call 11; refine (code_any A5 m _ HD1.out.is_ HD1.out.light).mono ?_; rintro e w9 ⟨rfl, hb9⟩; have HD2 := Lib.hid (HD1.out.later hb9); have HB2 := Lib.hid (HB1.out.trans (hb9.mono HB1.out.size)); clear hb9))
        all_goals
          go_wp2_with fail
          go_ret
          exact ⟨rfl, HB2.out⟩
      · have hq2 : what.tmod 16 = 7 := by rw [Int.tmod_eq_emod_of_nonneg hw1.1]; exact hq
        obtain ⟨k0, k1, k2, k3, k4, k5, k6, k7, k8⟩ := HF.out.fr.fin.cells
        obtain ⟨p, hp⟩ : ∃ p, x.cus[c]? = some p := ⟨_, List.getElem?_eq_getElem hcN⟩
        obtain ⟨g, hga, hc0, hf0, hfin⟩ := HF.out.fr.put_cus0 hp n
        have hge := HF.out.fr.cus_ge hga
        have HFIN := Lib.hid hfin
        rw [hga] at k6
        clear hfin hp
        go_wp2_with fail
        clear k0 k1 k2 k3 k4 k5 k6 k7 k8 hc0 hf0
        obtain ⟨W9, hW9⟩ : ∃ W9, wc.setCell ⟨g, c * 4, none⟩ (.int .i64 n) = W9 := ⟨_, rfl⟩
        have hFin := HFIN.out
        have hBel := HF.out.below.setCell (p := ⟨g, c * 4, none⟩) (by have := HF.out.b; show w.heap.size ≤ g; omega) (.int .i64 n)
        rw [hW9] at hFin hBel ⊢
        obtain ⟨A5, m, hFin⟩ : ∃ A5 m, Fin W9 gx A5 m := ⟨_, _, hFin⟩
        clear hW9
        have HD := Lib.hid (hFin.later (Below.refl _ W9).drew)
        have HBD := Lib.hid (hBel.trans ((Below.refl _ W9).drew.mono hBel.size))
        clear hFin hBel
        try clear HF
        obtain ⟨k0, k1, k2, k3, k4, k5, k6, k7, k8⟩ := HD.out.cells
        go_region_held3 (fun W => W.cell? ⟨gx, 0, none⟩ = some (.int .i64 m.en) ∧ W.cell? ⟨gx, 1, none⟩ = some (.int .i64 m.tm) ∧ W.cell? ⟨gx, 2, none⟩ = some (.int .i64 m.tr) ∧ W.cell? ⟨gx, 3, none⟩ = some (.int .i64 m.bm) ∧ W.cell? ⟨gx, 4, none⟩ = some (.int .i64 m.br) ∧ W.cell? ⟨gx, 5, none⟩ = some (.slice A5.sa m.sats.length A5.sc) ∧ W.cell? ⟨gx, 6, none⟩ = some (.slice A5.ca m.cus.length A5.cc) ∧ W.cell? ⟨gx, 7, none⟩ = some (.slice A5.ka m.cost.length A5.kc) ∧ W.cell? ⟨gx, 8, none⟩ = some (.slice A5.ta m.time.length A5.tc))
          (first | assumption | exact HD.out.cells | exact HD1.out.cells | exact HD2.out.cells)
          (first
            | (go_at_call 10; refine (check_any A5 m _ HD.out.is_ HD.out.light).mono ?_; rintro e w8 ⟨rfl, hb8⟩; have HD1 := Lib.hid (HD.out.later hb8); have HB1 := Lib.hid (HBD.out.trans (hb8.mono HBD.out.size)); clear hb8)
            | (go_at_call 11; refine (code_any A5 m _ HD1.out.is_ HD1.out.light).mono ?_; rintro e w9 ⟨rfl, hb9⟩; have HD2 := Lib.hid (HD1.out.later hb9); have HB2 := Lib.hid (HB1.out.trans (hb9.mono HB1.out.size)); clear hb9))
        all_goals
          go_wp2_with fail
          go_ret
          exact ⟨rfl, HB2.out⟩
      · have hq2 : what.tmod 16 = 8 := by rw [Int.tmod_eq_emod_of_nonneg hw1.1]; exact hq
        obtain ⟨k0, k1, k2, k3, k4, k5, k6, k7, k8⟩ := HF.out.fr.fin.cells
        obtain ⟨p, hp⟩ : ∃ p, x.cus[c]? = some p := ⟨_, List.getElem?_eq_getElem hcN⟩
        obtain ⟨g, hga, hc0, hf0, hfin⟩ := HF.out.fr.put_cus1 hp n
        have hge := HF.out.fr.cus_ge hga
        have HFIN := Lib.hid hfin
        rw [hga] at k6
        clear hfin hp
        go_wp2_with fail
        clear k0 k1 k2 k3 k4 k5 k6 k7 k8 hc0 hf0
        obtain ⟨W9, hW9⟩ : ∃ W9, wc.setCell ⟨g, c * 4 + 1, none⟩ (.int .i64 n) = W9 := ⟨_, rfl⟩
        have hFin := HFIN.out
        have hBel := HF.out.below.setCell (p := ⟨g, c * 4 + 1, none⟩) (by have := HF.out.b; show w.heap.size ≤ g; omega) (.int .i64 n)
        rw [hW9] at hFin hBel ⊢
        obtain ⟨A5, m, hFin⟩ : ∃ A5 m, Fin W9 gx A5 m := ⟨_, _, hFin⟩
        clear hW9
        have HD := Lib.hid (hFin.later (Below.refl _ W9).drew)
        have HBD := Lib.hid (hBel.trans ((Below.refl _ W9).drew.mono hBel.size))
        clear hFin hBel
        try clear HF
        obtain ⟨k0, k1, k2, k3, k4, k5, k6, k7, k8⟩ := HD.out.cells
        go_region_held3 (fun W => W.cell? ⟨gx, 0, none⟩ = some (.int .i64 m.en) ∧ W.cell? ⟨gx, 1, none⟩ = some (.int .i64 m.tm) ∧ W.cell? ⟨gx, 2, none⟩ = some (.int .i64 m.tr) ∧ W.cell? ⟨gx, 3, none⟩ = some (.int .i64 m.bm) ∧ W.cell? ⟨gx, 4, none⟩ = some (.int .i64 m.br) ∧ W.cell? ⟨gx, 5, none⟩ = some (.slice A5.sa m.sats.length A5.sc) ∧ W.cell? ⟨gx, 6, none⟩ = some (.slice A5.ca m.cus.length A5.cc) ∧ W.cell? ⟨gx, 7, none⟩ = some (.slice A5.ka m.cost.length A5.kc) ∧ W.cell? ⟨gx, 8, none⟩ = some (.slice A5.ta m.time.length A5.tc))
          (first | assumption | exact HD.out.cells | exact HD1.out.cells | exact HD2.out.cells)
          (first
            | (go_at_call 10; refine (check_any A5 m _ HD.out.is_ HD.out.light).mono ?_; rintro e w8 ⟨rfl, hb8⟩; have HD1 := Lib.hid (HD.out.later hb8); have HB1 := Lib.hid (HBD.out.trans (hb8.mono HBD.out.size)); clear hb8)
            | (go_at_call 11; refine (code_any A5 m _ HD1.out.is_ HD1.out.light).mono ?_; rintro e w9 ⟨rfl, hb9⟩; have HD2 := Lib.hid (HD1.out.later hb9); have HB2 := Lib.hid (HB1.out.trans (hb9.mono HB1.out.size)); clear hb9))
        all_goals
          go_wp2_with fail
          go_ret
          exact ⟨rfl, HB2.out⟩
      · have hq2 : what.tmod 16 = 9 := by rw [Int.tmod_eq_emod_of_nonneg hw1.1]; exact hq
        obtain ⟨k0, k1, k2, k3, k4, k5, k6, k7, k8⟩ := HF.out.fr.fin.cells
        obtain ⟨p, hp⟩ : ∃ p, x.cus[c]? = some p := ⟨_, List.getElem?_eq_getElem hcN⟩
        obtain ⟨g, hga, hc0, hf0, hfin⟩ := HF.out.fr.put_cus2 hp n
        have hge := HF.out.fr.cus_ge hga
        have HFIN := Lib.hid hfin
        rw [hga] at k6
        clear hfin hp
        go_wp2_with fail
        clear k0 k1 k2 k3 k4 k5 k6 k7 k8 hc0 hf0
        obtain ⟨W9, hW9⟩ : ∃ W9, wc.setCell ⟨g, c * 4 + 2, none⟩ (.int .i64 n) = W9 := ⟨_, rfl⟩
        have hFin := HFIN.out
        have hBel := HF.out.below.setCell (p := ⟨g, c * 4 + 2, none⟩) (by have := HF.out.b; show w.heap.size ≤ g; omega) (.int .i64 n)
        rw [hW9] at hFin hBel ⊢
        obtain ⟨A5, m, hFin⟩ : ∃ A5 m, Fin W9 gx A5 m := ⟨_, _, hFin⟩
        clear hW9
        have HD := Lib.hid (hFin.later (Below.refl _ W9).drew)
        have HBD := Lib.hid (hBel.trans ((Below.refl _ W9).drew.mono hBel.size))
        clear hFin hBel
        try clear HF
        obtain ⟨k0, k1, k2, k3, k4, k5, k6, k7, k8⟩ := HD.out.cells
        go_region_held3 (fun W => W.cell? ⟨gx, 0, none⟩ = some (.int .i64 m.en) ∧ W.cell? ⟨gx, 1, none⟩ = some (.int .i64 m.tm) ∧ W.cell? ⟨gx, 2, none⟩ = some (.int .i64 m.tr) ∧ W.cell? ⟨gx, 3, none⟩ = some (.int .i64 m.bm) ∧ W.cell? ⟨gx, 4, none⟩ = some (.int .i64 m.br) ∧ W.cell? ⟨gx, 5, none⟩ = some (.slice A5.sa m.sats.length A5.sc) ∧ W.cell? ⟨gx, 6, none⟩ = some (.slice A5.ca m.cus.length A5.cc) ∧ W.cell? ⟨gx, 7, none⟩ = some (.slice A5.ka m.cost.length A5.kc) ∧ W.cell? ⟨gx, 8, none⟩ = some (.slice A5.ta m.time.length A5.tc))
          (first | assumption | exact HD.out.cells | exact HD1.out.cells | exact HD2.out.cells)
          (first
            | (go_at_call 10; refine (check_any A5 m _ HD.out.is_ HD.out.light).mono ?_; rintro e w8 ⟨rfl, hb8⟩; have HD1 := Lib.hid (HD.out.later hb8); have HB1 := Lib.hid (HBD.out.trans (hb8.mono HBD.out.size)); clear hb8)
            | (go_at_call 11; refine (code_any A5 m _ HD1.out.is_ HD1.out.light).mono ?_; rintro e w9 ⟨rfl, hb9⟩; have HD2 := Lib.hid (HD1.out.later hb9); have HB2 := Lib.hid (HB1.out.trans (hb9.mono HB1.out.size)); clear hb9))
        all_goals
          go_wp2_with fail
          go_ret
          exact ⟨rfl, HB2.out⟩
      · have hq2 : what.tmod 16 = 10 := by rw [Int.tmod_eq_emod_of_nonneg hw1.1]; exact hq
        obtain ⟨k0, k1, k2, k3, k4, k5, k6, k7, k8⟩ := HF.out.fr.fin.cells
        obtain ⟨p, hp⟩ : ∃ p, x.cus[c]? = some p := ⟨_, List.getElem?_eq_getElem hcN⟩
        obtain ⟨g, hga, hc0, hf0, hfin⟩ := HF.out.fr.put_cus3 hp n
        have hge := HF.out.fr.cus_ge hga
        have HFIN := Lib.hid hfin
        rw [hga] at k6
        clear hfin hp
        go_wp2_with fail
        clear k0 k1 k2 k3 k4 k5 k6 k7 k8 hc0 hf0
        obtain ⟨W9, hW9⟩ : ∃ W9, wc.setCell ⟨g, c * 4 + 3, none⟩ (.int .i64 n) = W9 := ⟨_, rfl⟩
        have hFin := HFIN.out
        have hBel := HF.out.below.setCell (p := ⟨g, c * 4 + 3, none⟩) (by have := HF.out.b; show w.heap.size ≤ g; omega) (.int .i64 n)
        rw [hW9] at hFin hBel ⊢
        obtain ⟨A5, m, hFin⟩ : ∃ A5 m, Fin W9 gx A5 m := ⟨_, _, hFin⟩
        clear hW9
        have HD := Lib.hid (hFin.later (Below.refl _ W9).drew)
        have HBD := Lib.hid (hBel.trans ((Below.refl _ W9).drew.mono hBel.size))
        clear hFin hBel
        try clear HF
        obtain ⟨k0, k1, k2, k3, k4, k5, k6, k7, k8⟩ := HD.out.cells
        go_region_held3 (fun W => W.cell? ⟨gx, 0, none⟩ = some (.int .i64 m.en) ∧ W.cell? ⟨gx, 1, none⟩ = some (.int .i64 m.tm) ∧ W.cell? ⟨gx, 2, none⟩ = some (.int .i64 m.tr) ∧ W.cell? ⟨gx, 3, none⟩ = some (.int .i64 m.bm) ∧ W.cell? ⟨gx, 4, none⟩ = some (.int .i64 m.br) ∧ W.cell? ⟨gx, 5, none⟩ = some (.slice A5.sa m.sats.length A5.sc) ∧ W.cell? ⟨gx, 6, none⟩ = some (.slice A5.ca m.cus.length A5.cc) ∧ W.cell? ⟨gx, 7, none⟩ = some (.slice A5.ka m.cost.length A5.kc) ∧ W.cell? ⟨gx, 8, none⟩ = some (.slice A5.ta m.time.length A5.tc))
          (first | assumption | exact HD.out.cells | exact HD1.out.cells | exact HD2.out.cells)
          (first
            | (go_at_call 10; refine (check_any A5 m _ HD.out.is_ HD.out.light).mono ?_; rintro e w8 ⟨rfl, hb8⟩; have HD1 := Lib.hid (HD.out.later hb8); have HB1 := Lib.hid (HBD.out.trans (hb8.mono HBD.out.size)); clear hb8)
            | (go_at_call 11; refine (code_any A5 m _ HD1.out.is_ HD1.out.light).mono ?_; rintro e w9 ⟨rfl, hb9⟩; have HD2 := Lib.hid (HD1.out.later hb9); have HB2 := Lib.hid (HB1.out.trans (hb9.mono HB1.out.size)); clear hb9))
        all_goals
          go_wp2_with fail
          go_ret
          exact ⟨rfl, HB2.out⟩
      · have hq2 : what.tmod 16 = 11 := by rw [Int.tmod_eq_emod_of_nonneg hw1.1]; exact hq
        obtain ⟨k0, k1, k2, k3, k4, k5, k6, k7, k8⟩ := HF.out.fr.fin.cells
        have hkl := HF.out.fr.klen.1
        obtain ⟨g, hga, hc0, hc1, hf1⟩ := HF.out.fr.own.cost.cell_ hiN hkN
        have HFIN := Lib.hid (HF.out.fr.put_cost hiN hkN n)
        have hge := HF.out.fr.vk_ge hiN
        rw [hga, hkl] at k7
        clear hkl
        go_wp2_with fail
        clear k0 k1 k2 k3 k4 k5 k6 k7 k8 hc0 hc1 hf1
        obtain ⟨W9, hW9⟩ : ∃ W9, wc.setCell ⟨VK i, k, none⟩ (.int .i64 n) = W9 := ⟨_, rfl⟩
        have hFin := HFIN.out
        have hBel := HF.out.below.setCell (p := ⟨VK i, k, none⟩) (by have := HF.out.b; show w.heap.size ≤ VK i; omega) (.int .i64 n)
        rw [hW9] at hFin hBel ⊢
        obtain ⟨A5, m, hFin⟩ : ∃ A5 m, Fin W9 gx A5 m := ⟨_, _, hFin⟩
        clear hW9
        have HD := Lib.hid (hFin.later (Below.refl _ W9).drew)
        have HBD := Lib.hid (hBel.trans ((Below.refl _ W9).drew.mono hBel.size))
        clear hFin hBel
        try clear HF
        obtain ⟨k0, k1, k2, k3, k4, k5, k6, k7, k8⟩ := HD.out.cells
        go_region_held3 (fun W => W.cell? ⟨gx, 0, none⟩ = some (.int .i64 m.en) ∧ W.cell? ⟨gx, 1, none⟩ = some (.int .i64 m.tm) ∧ W.cell? ⟨gx, 2, none⟩ = some (.int .i64 m.tr) ∧ W.cell? ⟨gx, 3, none⟩ = some (.int .i64 m.bm) ∧ W.cell? ⟨gx, 4, none⟩ = some (.int .i64 m.br) ∧ W.cell? ⟨gx, 5, none⟩ = some (.slice A5.sa m.sats.length A5.sc) ∧ W.cell? ⟨gx, 6, none⟩ = some (.slice A5.ca m.cus.length A5.cc) ∧ W.cell? ⟨gx, 7, none⟩ = some (.slice A5.ka m.cost.length A5.kc) ∧ W.cell? ⟨gx, 8, none⟩ = some (.slice A5.ta m.time.length A5.tc))
          (first | assumption | exact HD.out.cells | exact HD1.out.cells | exact HD2.out.cells)
          (first
            | (go_at_call 10; refine (check_any A5 m _ HD.out.is_ HD.out.light).mono ?_; rintro e w8 ⟨rfl, hb8⟩; have HD1 := Lib.hid (HD.out.later hb8); have HB1 := Lib.hid (HBD.out.trans (hb8.mono HBD.out.size)); clear hb8)
            | (go_at_call 11; refine (code_any A5 m _ HD1.out.is_ HD1.out.light).mono ?_; rintro e w9 ⟨rfl, hb9⟩; have HD2 := Lib.hid (HD1.out.later hb9); have HB2 := Lib.hid (HB1.out.trans (hb9.mono HB1.out.size)); clear hb9))
        all_goals
          go_wp2_with fail
          go_ret
          exact ⟨rfl, HB2.out⟩
      · have hq2 : what.tmod 16 = 12 := by rw [Int.tmod_eq_emod_of_nonneg hw1.1]; exact hq
        obtain ⟨k0, k1, k2, k3, k4, k5, k6, k7, k8⟩ := HF.out.fr.fin.cells
        have hkl := HF.out.fr.klen.2
        obtain ⟨g, hga, hc0, hc1, hf1⟩ := HF.out.fr.own.time.cell_ hiN hkN
        have HFIN := Lib.hid (HF.out.fr.put_time hiN hkN n)
        have hge := HF.out.fr.vt_ge hiN
        rw [hga, hkl] at k8
        clear hkl
        go_wp2_with fail
        clear k0 k1 k2 k3 k4 k5 k6 k7 k8 hc0 hc1 hf1
        obtain ⟨W9, hW9⟩ : ∃ W9, wc.setCell ⟨VT i, k, none⟩ (.int .i64 n) = W9 := ⟨_, rfl⟩
        have hFin := HFIN.out
        have hBel := HF.out.below.setCell (p := ⟨VT i, k, none⟩) (by have := HF.out.b; show w.heap.size ≤ VT i; omega) (.int .i64 n)
        rw [hW9] at hFin hBel ⊢
        obtain ⟨A5, m, hFin⟩ : ∃ A5 m, Fin W9 gx A5 m := ⟨_, _, hFin⟩
        clear hW9
        have HD := Lib.hid (hFin.later (Below.refl _ W9).drew)
        have HBD := Lib.hid (hBel.trans ((Below.refl _ W9).drew.mono hBel.size))
        clear hFin hBel
        try clear HF
        obtain ⟨k0, k1, k2, k3, k4, k5, k6, k7, k8⟩ := HD.out.cells
        go_region_held3 (fun W => W.cell? ⟨gx, 0, none⟩ = some (.int .i64 m.en) ∧ W.cell? ⟨gx, 1, none⟩ = some (.int .i64 m.tm) ∧ W.cell? ⟨gx, 2, none⟩ = some (.int .i64 m.tr) ∧ W.cell? ⟨gx, 3, none⟩ = some (.int .i64 m.bm) ∧ W.cell? ⟨gx, 4, none⟩ = some (.int .i64 m.br) ∧ W.cell? ⟨gx, 5, none⟩ = some (.slice A5.sa m.sats.length A5.sc) ∧ W.cell? ⟨gx, 6, none⟩ = some (.slice A5.ca m.cus.length A5.cc) ∧ W.cell? ⟨gx, 7, none⟩ = some (.slice A5.ka m.cost.length A5.kc) ∧ W.cell? ⟨gx, 8, none⟩ = some (.slice A5.ta m.time.length A5.tc))
          (first | assumption | exact HD.out.cells | exact HD1.out.cells | exact HD2.out.cells)
          (first
            | (go_at_call 10; refine (check_any A5 m _ HD.out.is_ HD.out.light).mono ?_; rintro e w8 ⟨rfl, hb8⟩; have HD1 := Lib.hid (HD.out.later hb8); have HB1 := Lib.hid (HBD.out.trans (hb8.mono HBD.out.size)); clear hb8)
            | (go_at_call 11; refine (code_any A5 m _ HD1.out.is_ HD1.out.light).mono ?_; rintro e w9 ⟨rfl, hb9⟩; have HD2 := Lib.hid (HD1.out.later hb9); have HB2 := Lib.hid (HB1.out.trans (hb9.mono HB1.out.size)); clear hb9))
        all_goals
          go_wp2_with fail
          go_ret
          exact ⟨rfl, HB2.out⟩
      · have hq2 : what.tmod 16 = 13 := by rw [Int.tmod_eq_emod_of_nonneg hw1.1]; exact hq
        obtain ⟨k0, k1, k2, k3, k4, k5, k6, k7, k8⟩ := HF.out.fr.fin.cells
        obtain ⟨i1, hj, hy0, hy1, hy2⟩ := info_parts infoLong
        obtain ⟨g, hga, hc0, _, _⟩ := HF.out.fr.own.cost.cell_ hiN hkN
        have hge := HF.out.fr.ka_ge hga
        have HGA := Lib.hid hga
        have hkl := HF.out.fr.klen.1
        rw [hga, hkl] at k7
        have HKL := Lib.hid hkl
        clear hkl hga
        go_upto_region 37 with fail
        have hS : wc.drew.cell? ⟨gx, 7, none⟩ = some (.slice (some ⟨g, 0, none⟩) N A.kc) := by simpa using k7
        have c1 : wc.drew.cell? ⟨g, i, none⟩ = some (.slice (some ⟨VK i, 0, none⟩) N N) := by simpa using hc0
        have HF1 := Lib.hid (HF.out.later (Below.refl _ wc).drew)
        clear k0 k1 k2 k3 k4 k5 k6 k7 k8 hc0
        obtain ⟨v1, hv1⟩ : ∃ v1, World.drew wc = v1 := ⟨_, rfl⟩
        refine wp_region_held_drew (S := fun W => W.cell? ⟨gx, 7, none⟩ = some (.slice (some ⟨g, 0, none⟩) N A.kc)) (by kernel_rfl) hS (fun hHeld => ?_)
        rw [hv1] at hHeld hS c1 HF1 ⊢
        clear hv1
        have HF2 := Lib.hid (HF1.out.later (below1 v1 (.cells #[.int .i64 n] 2)))
        have hS2 : (v1.alloc (.cells #[.int .i64 n] 2)).cell? ⟨gx, 7, none⟩ = some (.slice (some ⟨g, 0, none⟩) N A.kc) := by have := HF2.out.fr.fin.cells.2.2.2.2.2.2.2.1; rw [HGA.out, HKL.out] at this; exact this
        have c2 : (v1.alloc (.cells #[.int .i64 n] 2)).cell? ⟨g, i, none⟩ = some (.slice (some ⟨VK i, 0, none⟩) N N) := by obtain ⟨g', hga', q, _, _⟩ := HF2.out.fr.own.cost.cell_ hiN hkN; rw [HGA.out] at hga'; injection hga' with hga'; injection hga' with hga'; subst hga'; exact q
        have HO2 := Lib.hid (rowIs_owns (HF2.out.fr.own.cost.row i hiN).1 (HF2.out.fr.own.cost.row i hiN).2 (by omega))
        have HCL : Hid (C ≤ (v1.alloc (.cells #[.int .i64 n] 2)).heap.size) := Lib.hid (by have h1 := (HF2.out.fr.own.cost.row i hiN).2; have h2 := (HF2.out.fr.own.cost.row i hiN).1.lt; omega)
        have HVB := Lib.hid (HF2.out.fr.vk_ge hiN)
        have HBB := Lib.hid HF.out.b
        have HGE := Lib.hid hge
        clear hge
        refine wpAnyH_take (i := 0) (v := ?_) rfl (by kernel_rfl) (by kernel_rfl) (by kernel_rfl) (fun _ _ _ h => h) (Or.inl ⟨by rfl, ?_⟩) hHeld ?_
        rotate_left
        · intro W0 hW; go_simp; (try with_reducible rfl)
        try simp only [Act.put, List.setIfInBounds_toArray, List.set_cons_zero, List.set_cons_succ, List.getElem_toArray, List.getElem_cons_zero]
        refine wpAnyH_take (i := 1) (v := ?_) rfl (by kernel_rfl) (by kernel_rfl) (by kernel_rfl) (fun _ _ _ h => h) (Or.inl ⟨by rfl, ?_⟩) hHeld ?_
        rotate_left
        · intro W0 hW; go_simp; (try with_reducible rfl)
        try simp only [Act.put, List.setIfInBounds_toArray, List.set_cons_zero, List.set_cons_succ, List.getElem_toArray, List.getElem_cons_zero, List.getElem_cons_succ]
        refine wpAnyH_take (i := 2) (v := ?_) rfl (by kernel_rfl) (by kernel_rfl) (by kernel_rfl) (fun _ _ _ h => h) (Or.inl ⟨by rfl, ?_⟩) hHeld ?_
        rotate_left
        · intro W0 hW; go_simp; (try with_reducible rfl)
        try simp only [Act.put, List.setIfInBounds_toArray, List.set_cons_zero, List.set_cons_succ, List.getElem_toArray, List.getElem_cons_zero, List.getElem_cons_succ]
        refine wpAnyH_take (i := 3) (v := ?_) rfl (by kernel_rfl) (by kernel_rfl) (by kernel_rfl) (fun _ _ _ h => h) (Or.inl ⟨by rfl, ?_⟩) hHeld ?_
        rotate_left
        · intro W0 hW; go_simp; (try with_reducible rfl)
        try simp only [Act.put, List.setIfInBounds_toArray, List.set_cons_zero, List.set_cons_succ, List.getElem_toArray, List.getElem_cons_zero, List.getElem_cons_succ]
        refine wpAnyH_take (i := 4) (v := ?_) rfl (by kernel_rfl) (by kernel_rfl) (by kernel_rfl) (fun _ _ _ h => h) (Or.inl ⟨by rfl, ?_⟩) hHeld ?_
        rotate_left
        · intro W0 hW; go_simp; (try with_reducible rfl)
        try simp only [Act.put, List.setIfInBounds_toArray, List.set_cons_zero, List.set_cons_succ, List.getElem_toArray, List.getElem_cons_zero, List.getElem_cons_succ]
        refine wpAnyH_take (i := 5) (v := ?_) rfl (by kernel_rfl) (by kernel_rfl) (by kernel_rfl) (fun _ _ _ h => h) (Or.inl ⟨by rfl, ?_⟩) hHeld ?_
        rotate_left
        · intro W0 hW; go_simp; (try with_reducible rfl)
        try simp only [Act.put, List.setIfInBounds_toArray, List.set_cons_zero, List.set_cons_succ, List.getElem_toArray, List.getElem_cons_zero, List.getElem_cons_succ]
        refine wpAnyH_take (i := 6) (v := ?_) rfl (by kernel_rfl) (by kernel_rfl) (by kernel_rfl) (fun _ _ _ h => h) (Or.inl ⟨by rfl, ?_⟩) hHeld ?_
        rotate_left
        · intro W0 hW; go_simp; (try with_reducible rfl)
        try simp only [Act.put, List.setIfInBounds_toArray, List.set_cons_zero, List.set_cons_succ, List.getElem_toArray, List.getElem_cons_zero, List.getElem_cons_succ]
        refine wpAnyH_take (i := 8) (v := ?_) rfl (by kernel_rfl) (by kernel_rfl) (by kernel_rfl) (fun _ _ _ h => h) (Or.inl ⟨by rfl, ?_⟩) hHeld ?_
        rotate_left
        · intro W0 hW; go_simp; (try with_reducible rfl)
        try simp only [Act.put, List.setIfInBounds_toArray, List.set_cons_zero, List.set_cons_succ, List.getElem_toArray, List.getElem_cons_zero, List.getElem_cons_succ]
        refine wpAnyH_ready (rs := [7, 9]) (by kernel_rfl) (by simp) ?_
        refine AllReadyH.cons rfl (fun K hK => ?_) (AllReadyH.cons rfl (fun K hK => ?_) (AllReadyH.nil))
        · go_simp
          refine hK.out _ _ ?_ (fun hHeld => ?_)
          · exact hHeld
          clear hK K
          try simp only [Act.put, List.setIfInBounds_toArray, List.set_cons_zero, List.set_cons_succ, List.getElem_toArray, List.getElem_cons_zero, List.getElem_cons_succ]
          refine wpAnyH_ready (rs := [9]) (by kernel_rfl) (by simp) ?_
          refine AllReadyH.cons rfl (fun K hK => ?_) (AllReadyH.nil)
          go_simp
          refine hK.out _ _ ?_ (fun hHeld => ?_)
          · exact hS2
          clear hK K
          try simp only [Act.put, List.setIfInBounds_toArray, List.set_cons_zero, List.set_cons_succ, List.getElem_toArray, List.getElem_cons_zero, List.getElem_cons_succ]
          refine wpAnyH_ready (rs := [10]) (by kernel_rfl) (by simp) ?_
          refine AllReadyH.cons rfl (fun K hK => ?_) (AllReadyH.nil)
          refine step_append_fresh rfl (.tmp 155) (.tmp 157) 45 rfl C 2 i1 _ 1 8 Try.underlying45 hj hy0 hy1 hy2 (by decide) (.slice (some ⟨VK i, 0, none⟩) N N) N (numsV ((List.range N).map (LK i))) rfl HO2.out ⟨v1.heap.size, 0, none⟩ 1 [.int .i64 n] rfl rfl (news_at _ _ _ _ rfl) (one_int _) (by unfold maxLen; omega) (by omega) HCL.out ?_
          intro g4 cap4 w6 hown hgrow hfr
          obtain ⟨hfin, ⟨u6, hu6⟩, hf6, hk7⟩ := HF2.out.fr.push_row hiN HGA.out hown hgrow
          have HFIN := Lib.hid hfin
          have HB6 := Lib.hid (HF2.out.below.trans (((Mod.refl (fun k => k = VK i) _).grown hgrow (fun k hk => .inr (by injection hk with hk; exact hk.symm))).below (B := w.heap.size) HF2.out.below.size (fun k hk => by have h1 := HVB.out; have h2 := HBB.out; omega)))
          rw [HGA.out, HKL.out] at hk7
          have hS6 : (w6.setCell ⟨g, i, none⟩ (.slice (some ⟨g4, 0, none⟩) (N + 1) cap4)).cell? ⟨gx, 7, none⟩ = some (.slice (some ⟨g, 0, none⟩) N A.kc) := by have h9 := HFIN.out.cells.2.2.2.2.2.2.2.1; rw [HGA.out] at h9; simpa [sqL_length] using h9
          clear hown hgrow hfr hfin
          refine hK.out _ _ ?_ (fun hHeld => ?_)
          · exact hk7
          clear hK K
          try simp only [Act.put, List.setIfInBounds_toArray, List.set_cons_zero, List.set_cons_succ, List.getElem_toArray, List.getElem_cons_zero, List.getElem_cons_succ]
          refine wpAnyH_take (i := 11) (v := ?_) rfl (by kernel_rfl) (by kernel_rfl) (by kernel_rfl) (fun _ _ _ h => h) (Or.inl ⟨by rfl, ?_⟩) hHeld ?_
          rotate_left
          · intro W0 hW; go_simp; (try with_reducible rfl)
          try simp only [Act.put, List.setIfInBounds_toArray, List.set_cons_zero, List.set_cons_succ, List.getElem_toArray, List.getElem_cons_zero, List.getElem_cons_succ]
          refine wpAnyH_ready (rs := [12]) (by kernel_rfl) (by simp) ?_
          refine AllReadyH.cons rfl (fun K hK => ?_) (AllReadyH.nil)
          go_simp
          refine hK.out _ _ ?_ (fun hHeld => ?_)
          · exact hS6
          clear hK K
          try simp only [Act.put, List.setIfInBounds_toArray, List.set_cons_zero, List.set_cons_succ, List.getElem_toArray, List.getElem_cons_zero, List.getElem_cons_succ]
          refine wpAnyH_done (by kernel_rfl) ?_ _
          clear hHeld hu6 hf6 hk7 hS6 c1 c2 hS hS2
          go_wp2_with fail
          obtain ⟨W9, hW9⟩ : ∃ W9, w6.setCell ⟨g, i, none⟩ (.slice (some ⟨g4, 0, none⟩) (N + 1) cap4) = W9 := ⟨_, rfl⟩
          have hFin := HFIN.out
          have hBel := HB6.out.setCell (p := ⟨g, i, none⟩) (by have h1 := HBB.out; have h2 := HGE.out; show w.heap.size ≤ g; omega) (.slice (some ⟨g4, 0, none⟩) (N + 1) cap4)
          rw [hW9] at hFin hBel ⊢
          obtain ⟨A5, m, hFin⟩ : ∃ A5 m, Fin W9 gx A5 m := ⟨_, _, hFin⟩
          clear hW9
          have HD := Lib.hid (hFin.later (Below.refl _ W9).drew)
          have HBD := Lib.hid (hBel.trans ((Below.refl _ W9).drew.mono hBel.size))
          clear hFin hBel
          try clear HF
          obtain ⟨k0, k1, k2, k3, k4, k5, k6, k7, k8⟩ := HD.out.cells
          go_region_held3 (fun W => W.cell? ⟨gx, 0, none⟩ = some (.int .i64 m.en) ∧ W.cell? ⟨gx, 1, none⟩ = some (.int .i64 m.tm) ∧ W.cell? ⟨gx, 2, none⟩ = some (.int .i64 m.tr) ∧ W.cell? ⟨gx, 3, none⟩ = some (.int .i64 m.bm) ∧ W.cell? ⟨gx, 4, none⟩ = some (.int .i64 m.br) ∧ W.cell? ⟨gx, 5, none⟩ = some (.slice A5.sa m.sats.length A5.sc) ∧ W.cell? ⟨gx, 6, none⟩ = some (.slice A5.ca m.cus.length A5.cc) ∧ W.cell? ⟨gx, 7, none⟩ = some (.slice A5.ka m.cost.length A5.kc) ∧ W.cell? ⟨gx, 8, none⟩ = some (.slice A5.ta m.time.length A5.tc))
            (first | assumption | exact HD.out.cells | exact HD1.out.cells | exact HD2.out.cells)
            (first
              | (go_at_call 10; refine (check_any A5 m _ HD.out.is_ HD.out.light).mono ?_; rintro e w8 ⟨rfl, hb8⟩; have HD1 := Lib.hid (HD.out.later hb8); have HB1 := Lib.hid (HBD.out.trans (hb8.mono HBD.out.size)); clear hb8)
              | (go_at_call 11; refine (code_any A5 m _ HD1.out.is_ HD1.out.light).mono ?_; rintro e w9 ⟨rfl, hb9⟩; have HD2 := Lib.hid (HD1.out.later hb9); have HB2 := Lib.hid (HB1.out.trans (hb9.mono HB1.out.size)); clear hb9))
          all_goals
            go_wp2_with fail
            go_ret
            exact ⟨rfl, HB2.out⟩
        · go_simp
          refine hK.out _ _ ?_ (fun hHeld => ?_)
          · exact hS2
          clear hK K
          try simp only [Act.put, List.setIfInBounds_toArray, List.set_cons_zero, List.set_cons_succ, List.getElem_toArray, List.getElem_cons_zero, List.getElem_cons_succ]
          refine wpAnyH_ready (rs := [7]) (by kernel_rfl) (by simp) ?_
          refine AllReadyH.cons rfl (fun K hK => ?_) (AllReadyH.nil)
          go_simp
          refine hK.out _ _ ?_ (fun hHeld => ?_)
          · exact hHeld
          clear hK K
          try simp only [Act.put, List.setIfInBounds_toArray, List.set_cons_zero, List.set_cons_succ, List.getElem_toArray, List.getElem_cons_zero, List.getElem_cons_succ]
          refine wpAnyH_ready (rs := [10]) (by kernel_rfl) (by simp) ?_
          refine AllReadyH.cons rfl (fun K hK => ?_) (AllReadyH.nil)
          refine step_append_fresh rfl (.tmp 155) (.tmp 157) 45 rfl C 2 i1 _ 1 8 Try.underlying45 hj hy0 hy1 hy2 (by decide) (.slice (some ⟨VK i, 0, none⟩) N N) N (numsV ((List.range N).map (LK i))) rfl HO2.out ⟨v1.heap.size, 0, none⟩ 1 [.int .i64 n] rfl rfl (news_at _ _ _ _ rfl) (one_int _) (by unfold maxLen; omega) (by omega) HCL.out ?_
          intro g4 cap4 w6 hown hgrow hfr
          obtain ⟨hfin, ⟨u6, hu6⟩, hf6, hk7⟩ := HF2.out.fr.push_row hiN HGA.out hown hgrow
          have HFIN := Lib.hid hfin
          have HB6 := Lib.hid (HF2.out.below.trans (((Mod.refl (fun k => k = VK i) _).grown hgrow (fun k hk => .inr (by injection hk with hk; exact hk.symm))).below (B := w.heap.size) HF2.out.below.size (fun k hk => by have h1 := HVB.out; have h2 := HBB.out; omega)))
          rw [HGA.out, HKL.out] at hk7
          have hS6 : (w6.setCell ⟨g, i, none⟩ (.slice (some ⟨g4, 0, none⟩) (N + 1) cap4)).cell? ⟨gx, 7, none⟩ = some (.slice (some ⟨g, 0, none⟩) N A.kc) := by have h9 := HFIN.out.cells.2.2.2.2.2.2.2.1; rw [HGA.out] at h9; simpa [sqL_length] using h9
          clear hown hgrow hfr hfin
          refine hK.out _ _ ?_ (fun hHeld => ?_)
          · exact hk7
          clear hK K
          try simp only [Act.put, List.setIfInBounds_toArray, List.set_cons_zero, List.set_cons_succ, List.getElem_toArray, List.getElem_cons_zero, List.getElem_cons_succ]
          refine wpAnyH_take (i := 11) (v := ?_) rfl (by kernel_rfl) (by kernel_rfl) (by kernel_rfl) (fun _ _ _ h => h) (Or.inl ⟨by rfl, ?_⟩) hHeld ?_
          rotate_left
          · intro W0 hW; go_simp; (try with_reducible rfl)
          try simp only [Act.put, List.setIfInBounds_toArray, List.set_cons_zero, List.set_cons_succ, List.getElem_toArray, List.getElem_cons_zero, List.getElem_cons_succ]
          refine wpAnyH_ready (rs := [12]) (by kernel_rfl) (by simp) ?_
          refine AllReadyH.cons rfl (fun K hK => ?_) (AllReadyH.nil)
          go_simp
          refine hK.out _ _ ?_ (fun hHeld => ?_)
          · exact hS6
          clear hK K
          try simp only [Act.put, List.setIfInBounds_toArray, List.set_cons_zero, List.set_cons_succ, List.getElem_toArray, List.getElem_cons_zero, List.getElem_cons_succ]
          refine wpAnyH_done (by kernel_rfl) ?_ _
          clear hHeld hu6 hf6 hk7 hS6 c1 c2 hS hS2
          go_wp2_with fail
          obtain ⟨W9, hW9⟩ : ∃ W9, w6.setCell ⟨g, i, none⟩ (.slice (some ⟨g4, 0, none⟩) (N + 1) cap4) = W9 := ⟨_, rfl⟩
          have hFin := HFIN.out
          have hBel := HB6.out.setCell (p := ⟨g, i, none⟩) (by have h1 := HBB.out; have h2 := HGE.out; show w.heap.size ≤ g; omega) (.slice (some ⟨g4, 0, none⟩) (N + 1) cap4)
          rw [hW9] at hFin hBel ⊢
          obtain ⟨A5, m, hFin⟩ : ∃ A5 m, Fin W9 gx A5 m := ⟨_, _, hFin⟩
          clear hW9
          have HD := Lib.hid (hFin.later (Below.refl _ W9).drew)
          have HBD := Lib.hid (hBel.trans ((Below.refl _ W9).drew.mono hBel.size))
          clear hFin hBel
          try clear HF
          obtain ⟨k0, k1, k2, k3, k4, k5, k6, k7, k8⟩ := HD.out.cells
          go_region_held3 (fun W => W.cell? ⟨gx, 0, none⟩ = some (.int .i64 m.en) ∧ W.cell? ⟨gx, 1, none⟩ = some (.int .i64 m.tm) ∧ W.cell? ⟨gx, 2, none⟩ = some (.int .i64 m.tr) ∧ W.cell? ⟨gx, 3, none⟩ = some (.int .i64 m.bm) ∧ W.cell? ⟨gx, 4, none⟩ = some (.int .i64 m.br) ∧ W.cell? ⟨gx, 5, none⟩ = some (.slice A5.sa m.sats.length A5.sc) ∧ W.cell? ⟨gx, 6, none⟩ = some (.slice A5.ca m.cus.length A5.cc) ∧ W.cell? ⟨gx, 7, none⟩ = some (.slice A5.ka m.cost.length A5.kc) ∧ W.cell? ⟨gx, 8, none⟩ = some (.slice A5.ta m.time.length A5.tc))
            (first | assumption | exact HD.out.cells | exact HD1.out.cells | exact HD2.out.cells)
            (first
              | (go_at_call 10; refine (check_any A5 m _ HD.out.is_ HD.out.light).mono ?_; rintro e w8 ⟨rfl, hb8⟩; have HD1 := Lib.hid (HD.out.later hb8); have HB1 := Lib.hid (HBD.out.trans (hb8.mono HBD.out.size)); clear hb8)
              | (go_at_call 11; refine (code_any A5 m _ HD1.out.is_ HD1.out.light).mono ?_; rintro e w9 ⟨rfl, hb9⟩; have HD2 := Lib.hid (HD1.out.later hb9); have HB2 := Lib.hid (HB1.out.trans (hb9.mono HB1.out.size)); clear hb9))
          all_goals
            go_wp2_with fail
            go_ret
            exact ⟨rfl, HB2.out⟩
      · have hq2 : what.tmod 16 = 14 := by rw [Int.tmod_eq_emod_of_nonneg hw1.1]; exact hq
        obtain ⟨k0, k1, k2, k3, k4, k5, k6, k7, k8⟩ := HF.out.fr.fin.cells
        have hkl := HF.out.fr.klen.2
        have hcap : N ≤ A.tc := by
          have ho := HF.out.fr.own.time.outer
          obtain ⟨g, cap, e, _, _, h1, _⟩ := owns_some ho (by omega)
          injection e with _ _ e3
          omega
        have hfz := HF.out.fr.frozen 8
        have HFIN := Lib.hid (HF.out.fr.cut_time (Nat.le_of_lt hiN))
        rw [hkl] at k8
        clear hkl
        go_wp2_with fail
        clear k0 k1 k2 k3 k4 k5 k6 k7 k8 hfz
        obtain ⟨W9, hW9⟩ : ∃ W9, wc.setCell ⟨gx, 8, none⟩ (.slice A.ta i A.tc) = W9 := ⟨_, rfl⟩
        have hFin := HFIN.out
        have hBel := HF.out.below.setCell (p := ⟨gx, 8, none⟩) (Nat.le_trans (Nat.le_succ _) HF.out.gx) (.slice A.ta i A.tc)
        rw [hW9] at hFin hBel ⊢
        obtain ⟨A5, m, hFin⟩ : ∃ A5 m, Fin W9 gx A5 m := ⟨_, _, hFin⟩
        clear hW9
        have HD := Lib.hid (hFin.later (Below.refl _ W9).drew)
        have HBD := Lib.hid (hBel.trans ((Below.refl _ W9).drew.mono hBel.size))
        clear hFin hBel
        try clear HF
        obtain ⟨k0, k1, k2, k3, k4, k5, k6, k7, k8⟩ := HD.out.cells
        go_region_held3 (fun W => W.cell? ⟨gx, 0, none⟩ = some (.int .i64 m.en) ∧ W.cell? ⟨gx, 1, none⟩ = some (.int .i64 m.tm) ∧ W.cell? ⟨gx, 2, none⟩ = some (.int .i64 m.tr) ∧ W.cell? ⟨gx, 3, none⟩ = some (.int .i64 m.bm) ∧ W.cell? ⟨gx, 4, none⟩ = some (.int .i64 m.br) ∧ W.cell? ⟨gx, 5, none⟩ = some (.slice A5.sa m.sats.length A5.sc) ∧ W.cell? ⟨gx, 6, none⟩ = some (.slice A5.ca m.cus.length A5.cc) ∧ W.cell? ⟨gx, 7, none⟩ = some (.slice A5.ka m.cost.length A5.kc) ∧ W.cell? ⟨gx, 8, none⟩ = some (.slice A5.ta m.time.length A5.tc))
          (first | assumption | exact HD.out.cells | exact HD1.out.cells | exact HD2.out.cells)
          (first
            | (go_at_call 10; refine (check_any A5 m _ HD.out.is_ HD.out.light).mono ?_; rintro e w8 ⟨rfl, hb8⟩; have HD1 := Lib.hid (HD.out.later hb8); have HB1 := Lib.hid (HBD.out.trans (hb8.mono HBD.out.size)); clear hb8)
            | (go_at_call 11; refine (code_any A5 m _ HD1.out.is_ HD1.out.light).mono ?_; rintro e w9 ⟨rfl, hb9⟩; have HD2 := Lib.hid (HD1.out.later hb9); have HB2 := Lib.hid (HB1.out.trans (hb9.mono HB1.out.size)); clear hb9))
        all_goals
          go_wp2_with fail
          go_ret
          exact ⟨rfl, HB2.out⟩
      · have hq2 : what.tmod 16 = 15 := by rw [Int.tmod_eq_emod_of_nonneg hw1.1]; exact hq
        obtain ⟨k0, k1, k2, k3, k4, k5, k6, k7, k8⟩ := HF.out.fr.fin.cells
        obtain ⟨i0, hi0, hz0, hz1, hz2⟩ := info_parts infoSatM
        have HF5 := Lib.hid (HF.out.later (below1 wc (.cells #[.int .i64 n, .int .i64 0] 42)))
        have HBS : Hid (B ≤ (wc.alloc (.cells #[.int .i64 n, .int .i64 0] 42)).heap.size) := Lib.hid (by have h1 := HF5.out.fr.vk_ge (i := 0) (by omega); have h2 := (HF5.out.fr.own.cost.row 0 (by omega)).1.lt; omega)
        have HBG := Lib.hid (Nat.le_trans (Nat.le_succ _) HF.out.b)
        have HGX := Lib.hid (Nat.le_trans (Nat.le_succ _) HF.out.gx)
        go_wp2_with (at_builtin; refine wpList_append_fresh rfl (.tmp 48) (.tmp 51) 24 rfl B 42 i0 _ 2 16 Try.underlying24 hi0 hz0 hz1 hz2 (by decide) (.slice A.sa x.sats.length A.sc) x.sats.length (flatS x.sats) rfl HF5.out.fr.own.sats ⟨_, 0, none⟩ 1 (encS (n, 0)) rfl rfl (newsS_at _ (n, 0) _ _ (by simp)) (oneS _) (by unfold maxLen; omega) (by omega) HBS.out ?_; intro g4 cap4 w6 hown hgrow hfr; obtain ⟨hP, k5', kf⟩ := HF5.out.fr.push_sat (p := (n, 0)) hown hgrow; have HP := Lib.hid hP; have HB6 := Lib.hid (HF5.out.below.trans (((Mod.refl (fun k => B ≤ k) _).grown hgrow (fun k hk => .inr (World.ownsRow.lt HF5.out.fr.own.sats k hk).1)).below HBS.out (fun k hk => hk) |>.mono HBG.out)); clear hown hgrow hfr hP)
        clear k0 k1 k2 k3 k4 k5 k6 k7 k8 k5' kf HF5
        obtain ⟨W9, hW9⟩ : ∃ W9, w6.setCell ⟨gx, 5, none⟩ (.slice (some ⟨g4, 0, none⟩) (x.sats.length + 1) cap4) = W9 := ⟨_, rfl⟩
        have hFin := HP.out
        have hBel := HB6.out.setCell (p := ⟨gx, 5, none⟩) HGX.out (.slice (some ⟨g4, 0, none⟩) (x.sats.length + 1) cap4)
        rw [hW9] at hFin hBel ⊢
        obtain ⟨A5, m, hFin⟩ : ∃ A5 m, Fin W9 gx A5 m := ⟨_, _, hFin⟩
        clear hW9
        have HD := Lib.hid (hFin.later (Below.refl _ W9).drew)
        have HBD := Lib.hid (hBel.trans ((Below.refl _ W9).drew.mono hBel.size))
        clear hFin hBel
        try clear HF
        obtain ⟨k0, k1, k2, k3, k4, k5, k6, k7, k8⟩ := HD.out.cells
        go_region_held3 (fun W => W.cell? ⟨gx, 0, none⟩ = some (.int .i64 m.en) ∧ W.cell? ⟨gx, 1, none⟩ = some (.int .i64 m.tm) ∧ W.cell? ⟨gx, 2, none⟩ = some (.int .i64 m.tr) ∧ W.cell? ⟨gx, 3, none⟩ = some (.int .i64 m.bm) ∧ W.cell? ⟨gx, 4, none⟩ = some (.int .i64 m.br) ∧ W.cell? ⟨gx, 5, none⟩ = some (.slice A5.sa m.sats.length A5.sc) ∧ W.cell? ⟨gx, 6, none⟩ = some (.slice A5.ca m.cus.length A5.cc) ∧ W.cell? ⟨gx, 7, none⟩ = some (.slice A5.ka m.cost.length A5.kc) ∧ W.cell? ⟨gx, 8, none⟩ = some (.slice A5.ta m.time.length A5.tc))
          (first | assumption | exact HD.out.cells | exact HD1.out.cells | exact HD2.out.cells)
          (first
            | (go_at_call 10; refine (check_any A5 m _ HD.out.is_ HD.out.light).mono ?_; rintro e w8 ⟨rfl, hb8⟩; have HD1 := Lib.hid (HD.out.later hb8); have HB1 := Lib.hid (HBD.out.trans (hb8.mono HBD.out.size)); clear hb8)
            | (go_at_call 11; refine (code_any A5 m _ HD1.out.is_ HD1.out.light).mono ?_; rintro e w9 ⟨rfl, hb9⟩; have HD2 := Lib.hid (HD1.out.later hb9); have HB2 := Lib.hid (HB1.out.trans (hb9.mono HB1.out.size)); clear hb9))
        all_goals
          go_wp2_with fail
          go_ret
          exact ⟨rfl, HB2.out⟩
end Go.Proofs.Ytkapknfcepcijaa
