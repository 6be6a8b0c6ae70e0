/- Package plan: Cost. -/
import Derived.Test.YtmnbpnjakbihdaaPlN
namespace Go.Proofs.Ytmnbpnjakbihdaa
open Go.RowKit

variable {w wr w2 : World} {A : InA} {x : Ins} {B n g N : Nat} {P : PlA} {p : Pl} {f : Nat → Int}
theorem satZ_in {s : Int} {ns : Nat} (h : amB s ns = true) (hn : ns ≤ 60) : satZ s = 1 + s := by
  obtain ⟨h1, h2⟩ := amB_true.1 h
  unfold satZ wrap64
  omega
theorem cusZ_in {c : Int} (h : amB c x.cus.length = true) (hm : May x) : cusZ x c = 1 + (x.sats.length : Int) + c := by
  obtain ⟨h1, h2⟩ := amB_true.1 h
  have := hm.ns
  have := hm.nc
  unfold cusZ wrap64
  omega
theorem sat_node {s : Int} (h : amB s x.sats.length = true) (hm : May x) : amB (satZ s) x.nodes = true := by
  rw [satZ_in h (by have := hm.ns; omega)]
  obtain ⟨h1, h2⟩ := amB_true.1 h
  refine amB_true.2 ⟨by omega, ?_⟩
  unfold Ins.nodes
  omega
theorem cus_node {c : Int} (h : amB c x.cus.length = true) (hm : May x) : amB (cusZ x c) x.nodes = true := by
  rw [cusZ_in h hm]
  obtain ⟨h1, h2⟩ := amB_true.1 h
  refine amB_true.2 ⟨by omega, ?_⟩
  unfold Ins.nodes
  omega
theorem truck_nodes {t : List (Int × Int)} (h : goT x.sats.length t) (hm : May x) : (truckN t).length ≤ 100 ∧ ∀ c ∈ truckN t, amB c x.nodes = true := by
  constructor
  · rw [truckN_len]
    have := goT_le h
    have := hm.ns
    omega
  · intro c hc
    unfold truckN at hc
    rcases List.mem_cons.1 hc with rfl | hc
    · refine amB_true.2 ⟨by omega, ?_⟩
      unfold Ins.nodes
      omega
    · obtain ⟨s, hs, rfl⟩ := List.mem_map.1 hc
      obtain ⟨j, hj⟩ := List.getElem?_of_mem hs
      exact sat_node (h.2 j s hj).1 hm
theorem bike_nodes {b : Int × List Int} {l : List (Int × List Int)} (h : goB x.sats.length x.cus.length l b) (hm : May x) : (bikeN x b.1 b.2).length ≤ 100 ∧ ∀ c ∈ bikeN x b.1 b.2, amB c x.nodes = true := by
  constructor
  · rw [bikeN_len]
    have := goB_le h
    have := hm.nc
    omega
  · intro c hc
    unfold bikeN at hc
    rcases List.mem_cons.1 hc with rfl | hc
    · exact sat_node h.1 hm
    · obtain ⟨s, hs, rfl⟩ := List.mem_map.1 hc
      obtain ⟨j, hj⟩ := List.getElem?_of_mem hs
      exact cus_node (h.2.2 j s hj).1 hm
/-- What a plan costs. -/
def costP (x : Ins) (p : Pl) : Int := sumF (fun t => wayS x (truckN t)) p.tr + sumF (fun b : Int × List Int => wayS x (bikeN x b.1 b.2)) p.bk
theorem PErr.zero (h : PErr x p 0) : (p.tr.length : Int) ≤ x.tm ∧ (p.bk.length : Int) ≤ x.bm ∧ TGo x.sats.length p.tr ∧ BGo x.sats.length x.cus.length p.bk := by
  rcases h with ⟨_, h⟩ | ⟨a, b, ⟨_, h⟩ | ⟨c, d, _⟩⟩
  · omega
  · omega
  · exact ⟨a, b, c, d⟩
theorem bnode_le {b : Int × List Int} (h : (bikeN x b.1 b.2).length ≤ 100) : b.2.length ≤ 100 := by
  rw [bikeN_len] at h; omega
theorem tnode_le {t : List (Int × Int)} (h : (truckN t).length ≤ 100) : t.length ≤ 100 := by
  rw [truckN_len] at h; omega
theorem pcost_bad (A : InA) (x : Ins) (P : PlA) (p : Pl) (w : World) (hx : IsIns w.heap.size w A x) (hl3 : x.cost.length ≤ 9223372036854775807) (hl4 : x.time.length ≤ 9223372036854775807) (hne : instErr x ≠ 0) :
    Calls Try.prog 14 #[.agg (insC A x), .agg (plC P p)] w fun e w' => e = .returned (.tuple #[.int .i64 0, .int .i64 (instErr x)]) ∧ Below w.heap.size w w' := by
  have H0 := Lib.hid (PX.make w A x P p)
  obtain ⟨c0, c1, c2, c3, c4, c5, c6, c7, c8, d0, d1⟩ := H0.out.cells
  have HCK := Lib.hid (pcheck_bad A x P p _ ((hx.later H0.out.below).mono H0.out.below.size) hl3 hl4 hne)
  obtain ⟨u, hu⟩ : ∃ u, instErr x = u := ⟨_, rfl⟩
  rw [hu] at HCK hne ⊢
  have hnb : (u != 0) = true := by simpa using hne
  clear hu hx
  unfold insC plC at *
  go_enter Try.func14, Try.ntmps14
  go_wp2_with (go_at_call 15; refine HCK.out.mono ?_; rintro e w1 ⟨rfl, hb1⟩; have H1 := Lib.hid (H0.out.later hb1); clear hb1)
  go_ret2
  exact ⟨rfl, H1.out.below⟩
set_option maxHeartbeats 8000000 in
set_option maxRecDepth 100000 in
theorem pcost_ok (A : InA) (x : Ins) (P : PlA) (p : Pl) (w : World) (hx : IsIns w.heap.size w A x) (hp : IsPl w.heap.size w P p) (hm : May x) :
    Calls Try.prog 14 #[.agg (insC A x), .agg (plC P p)] w fun e w' => ∃ u v, e = .returned (.tuple #[.int .i64 v, .int .i64 u]) ∧ PErr x p u ∧ (u = 0 → v = costP x p) ∧ (u ≠ 0 → v = 0) ∧ Below w.heap.size w w' := by
  have H0 := Lib.hid (PX.make w A x P p)
  obtain ⟨c0, c1, c2, c3, c4, c5, c6, c7, c8, d0, d1⟩ := H0.out.cells
  have HCK := Lib.hid (pcheck_ok A x P p _ ((hx.later H0.out.below).mono H0.out.below.size) ((hp.later H0.out.below).mono H0.out.below.size) hm)
  have HI := Lib.hid hx
  have HP := Lib.hid hp
  have HM := Lib.hid hm
  have hns := hm.ns
  have hnc := hm.nc
  have htm := hm.tm
  have hbm := hm.bm
  clear hx hp hm
  unfold insC plC at *
  go_enter Try.func14, Try.ntmps14
  go_upto_region 2 with (go_at_call 15; refine HCK.out.mono ?_; rintro e w1 ⟨uc, rfl, hpe, hb1⟩; have H1 := Lib.hid (H0.out.later hb1); have HPE := Lib.hid hpe; clear hb1 hpe)
  clear c0 c1 c2 c3 c4 c5 c6 c7 c8 d0 d1 H0 HCK
  by_cases hu0 : uc = 0
  rotate_left
  · have hnb : (uc != 0) = true := by simpa using hu0
    have HU0 := Lib.hid hu0
    clear hu0
    go_wp2_with fail
    go_ret2
    exact ⟨_, _, rfl, HPE.out, fun h => absurd h HU0.out, fun _ => rfl, H1.out.below⟩
  subst hu0
  obtain ⟨hlt1, hlb1, htg, hbg⟩ := HPE.out.zero
  have HTW : Hid (∀ t ∈ p.tr, t.length ≤ 100 ∧ ∀ c ∈ truckN t, amB c x.nodes = true) := Lib.hid (fun t ht => by
    obtain ⟨j, hj⟩ := List.getElem?_of_mem ht
    have := truck_nodes (htg j t hj) HM.out
    exact ⟨tnode_le this.1, this.2⟩)
  have HBW : Hid (∀ b ∈ p.bk, b.2.length ≤ 100 ∧ ∀ c ∈ bikeN x b.1 b.2, amB c x.nodes = true) := Lib.hid (fun b hb => by
    obtain ⟨j, hj⟩ := List.getElem?_of_mem hb
    have := bike_nodes (hbg j b hj) HM.out
    exact ⟨bnode_le this.1, this.2⟩)
  clear htg hbg
  obtain ⟨n, hnn⟩ : ∃ n, p.tr.length = n := ⟨_, rfl⟩
  obtain ⟨n2, hnn2⟩ : ∃ n, p.bk.length = n := ⟨_, rfl⟩
  have HN := Lib.hid hnn
  have HN2 := Lib.hid hnn2
  have HX1 : Hid (CBox w w1 w.heap.size (insC A x) 37) := Lib.hid ⟨H1.out.below, Nat.le_refl _, H1.out.inst⟩
  have HQ1 : Hid (CBox w w1 (w.heap.size + 1) #[.slice P.ta n P.tc, .slice P.ba n2 P.bc] 42) := Lib.hid ⟨H1.out.below, Nat.le_succ _, by rw [← hnn, ← hnn2]; exact H1.out.plan⟩
  rw [hnn] at hlt1 ⊢
  rw [hnn2] at hlb1 ⊢
  have hn60 : n ≤ 60 := by omega
  have hm60 : n2 ≤ 60 := by omega
  have HTS : Hid (∀ i, i ≤ 60 → 0 ≤ sumF (fun t => wayS x (truckN t)) (p.tr.take i) ∧ sumF (fun t => wayS x (truckN t)) (p.tr.take i) ≤ 1000000000000000) := Lib.hid (fun i hi => by
    have := sumF_take_in (f := fun t => wayS x (truckN t)) (M := 1000000000000) (l := p.tr) (k := i) (fun t ht => by
      have h := HTW.out t ht
      exact wayS_in HM.out h.2 (by rw [truckN_len]; omega)) (by omega) (by omega)
    omega)
  have HBS : Hid (∀ i, i ≤ 60 → 0 ≤ sumF (fun b : Int × List Int => wayS x (bikeN x b.1 b.2)) (p.bk.take i) ∧ sumF (fun b : Int × List Int => wayS x (bikeN x b.1 b.2)) (p.bk.take i) ≤ 1000000000000000) := Lib.hid (fun i hi => by
    have := sumF_take_in (f := fun b : Int × List Int => wayS x (bikeN x b.1 b.2)) (M := 1000000000000) (l := p.bk) (k := i) (fun t ht => by
      have h := HBW.out t ht
      exact wayS_in HM.out h.2 (by rw [bikeN_len]; omega)) (by omega) (by omega)
    omega)
  obtain ⟨c0, c1⟩ := HQ1.out.cell2
  clear hnn hnn2 H1 htm hbm hlt1 hlb1
  have hz0 : ((0 : Int) != 0) = false := rfl
  go_wp2_with fail
  clear c0 c1 hz0
  go_loopw [7, 21] (fun mv iv wr => ∃ i : Nat, ∃ u : Int, iv = .int .i64 (i : Int) ∧ mv = .int .i64 u ∧ i ≤ n ∧ Hid (sumF (fun t => wayS x (truckN t)) (p.tr.take i) = u) ∧ Hid (CBox w wr (w.heap.size + 1) #[.slice P.ta n P.tc, .slice P.ba n2 P.bc] 42) ∧ Hid (CBox w wr w.heap.size (insC A x) 37)) (fun _ iv _ => n - (intOf iv).toNat)
  case atStart => exact ⟨0, 0, rfl, rfl, Nat.zero_le _, Lib.hid rfl, HQ1, HX1⟩
  case round =>
    obtain ⟨i, u, rfl, rfl, hi, HU, HQR, HXR⟩ := hrel
    clear HX1 HQ1
    have hub := HTS.out i (by omega)
    rw [HU.out] at hub
    by_cases hlt : i < n
    · obtain ⟨tb, to_, t, ra, rc, hta, htb, hg, htl, q0, hpr⟩ := HP.out.tr.at_ (by rw [HN.out]; exact hlt)
      have q0 := (HXR.out.below.cell (p := ⟨tb, to_ + i, none⟩) htb).trans q0
      have hok := HTW.out t (List.mem_of_getElem? hg)
      have hnl : (truckN t).length ≤ 1000 := by rw [truckN_len]; have := hok.1; omega
      have HSN : Hid (sumF (fun t => wayS x (truckN t)) (p.tr.take (i + 1)) = u + wayS x (truckN t)) := Lib.hid (by rw [sumF_next hg]; have := HU.out; omega)
      have HCN : Hid (∀ W, Below w.heap.size w W → Calls Try.prog 22 #[.agg #[.slice ra t.length rc], .agg (insC A x)] W fun e w' => ∃ v, e = .returned v ∧ w'.ownsRow W.heap.size 3 1 v (truckN t).length (numsV (truckN t)) ∧ Below W.heap.size W w') := Lib.hid (fun W hb => tnodes_any A x ra rc t W ((hpr.later hb).mono hb.size) (by omega))
      have HWY : Hid (∀ W a rc, Below w.heap.size w W → IsNums W.heap.size W a (truckN t).length (truckN t) → Calls Try.prog 35 #[.agg (insC A x), .slice a (truckN t).length rc] W fun e w' => e = .returned (.int .i64 (wayS x (truckN t))) ∧ Below W.heap.size W w') := Lib.hid (fun W a rc hb hn => way_any A x a _ rc (truckN t) W ((HI.out.later hb).mono hb.size) HM.out hn (by omega) hok.2)
      have hvb := wayS_in HM.out hok.2 (by omega)
      obtain ⟨v, hv⟩ : ∃ v, wayS x (truckN t) = v := ⟨_, rfl⟩
      obtain ⟨m, hmm⟩ : ∃ m, t.length = m := ⟨_, rfl⟩
      obtain ⟨L, hL⟩ : ∃ L, (truckN t) = L := ⟨_, rfl⟩
      rw [hv] at HSN hvb HWY
      rw [hmm] at q0 htl HCN
      rw [hL] at HCN HWY
      unfold insC at HCN HWY
      rw [hta] at HQR ⊢
      have w1' : IntKind.i64.wrap (u + v) = u + v := by rw [IntKind.wrap_i64]; omega
      have HX2 := Lib.hid (HXR.out.alloc (.cells #[.slice ra m rc] 58))
      have HQ2 := Lib.hid (HQR.out.alloc (.cells #[.slice ra m rc] 58))
      have HT2 : Hid ((wr.alloc (.cells #[.slice ra m rc] 58)).heap[wr.heap.size]? = some (.cells #[.slice ra m rc] 58 (0, 0))) := Lib.hid (heap_alloc_new _ _)
      clear hta htb hg hpr hv hmm hL hok hnl
      go_upto_region 8 with fail
      obtain ⟨gt, hgt⟩ : ∃ gt, wr.heap.size = gt := ⟨_, rfl⟩
      obtain ⟨W2, hW2⟩ : ∃ W2, wr.alloc (.cells #[.slice ra m rc] 58) = W2 := ⟨_, rfl⟩
      rw [hW2] at HX2 HQ2 HT2
      rw [hgt] at HT2
      rw [hW2, hgt]
      clear hW2 hgt q0
      have HX3 := Lib.hid HX2.out.drew
      have HQ3 := Lib.hid HQ2.out.drew
      have HT3 : Hid (W2.drew.heap[gt]? = some (.cells #[.slice ra m rc] 58 (0, 0))) := HT2
      have HCS : Hid (∀ W, CBox w W w.heap.size (insC A x) 37 → W.heap[gt]? = some (.cells #[.slice ra m rc] 58 (0, 0)) → W.cell? ⟨w.heap.size, 0, none⟩ = some (.int .i64 x.en) ∧ W.cell? ⟨w.heap.size, 1, none⟩ = some (.int .i64 x.tm) ∧ W.cell? ⟨w.heap.size, 2, none⟩ = some (.int .i64 x.tr) ∧ W.cell? ⟨w.heap.size, 3, none⟩ = some (.int .i64 x.bm) ∧ W.cell? ⟨w.heap.size, 4, none⟩ = some (.int .i64 x.br) ∧ W.cell? ⟨w.heap.size, 5, none⟩ = some (.slice A.sa x.sats.length A.sc) ∧ W.cell? ⟨w.heap.size, 6, none⟩ = some (.slice A.ca x.cus.length A.cc) ∧ W.cell? ⟨w.heap.size, 7, none⟩ = some (.slice A.ka x.cost.length A.kc) ∧ W.cell? ⟨w.heap.size, 8, none⟩ = some (.slice A.ta x.time.length A.tc) ∧ W.cell? ⟨gt, 0, none⟩ = some (.slice ra m rc)) := Lib.hid (fun W h1 h2 => by
        obtain ⟨d0, d1, d2, d3, d4, d5, d6, d7, d8⟩ := CBox.inst (A := A) (x := x) h1
        exact ⟨d0, d1, d2, d3, d4, d5, d6, d7, d8, by simp [World.cell?, h2]⟩)
      obtain ⟨d0, d1, d2, d3, d4, d5, d6, d7, d8, d9⟩ := HCS.out _ HX3.out HT3.out
      clear HX2 HQ2 HT2
      go_region_held3 (fun W => W.cell? ⟨w.heap.size, 0, none⟩ = some (.int .i64 x.en) ∧ W.cell? ⟨w.heap.size, 1, none⟩ = some (.int .i64 x.tm) ∧ W.cell? ⟨w.heap.size, 2, none⟩ = some (.int .i64 x.tr) ∧ W.cell? ⟨w.heap.size, 3, none⟩ = some (.int .i64 x.bm) ∧ W.cell? ⟨w.heap.size, 4, none⟩ = some (.int .i64 x.br) ∧ W.cell? ⟨w.heap.size, 5, none⟩ = some (.slice A.sa x.sats.length A.sc) ∧ W.cell? ⟨w.heap.size, 6, none⟩ = some (.slice A.ca x.cus.length A.cc) ∧ W.cell? ⟨w.heap.size, 7, none⟩ = some (.slice A.ka x.cost.length A.kc) ∧ W.cell? ⟨w.heap.size, 8, none⟩ = some (.slice A.ta x.time.length A.tc) ∧ W.cell? ⟨gt, 0, none⟩ = some (.slice ra m rc))
        (first | assumption | exact HCS.out _ HX3.out HT3.out | exact HCS.out _ HX5.out HT5.out | exact HCS.out _ HX6.out HT6.out)
        (first
          | (go_at_call 22; refine (HCN.out _ HX3.out.below).mono ?_; rintro e w5 ⟨v5, rfl, hown, hb5⟩; obtain ⟨a5, c5, rfl, hnum⟩ := owns_nums hown; have HX5 := Lib.hid (HX3.out.later hb5); have HQ5 := Lib.hid (HQ3.out.later hb5); have HT5 : Hid (w5.heap[gt]? = some (.cells #[.slice ra m rc] 58 (0, 0))) := Lib.hid ((hb5.block gt (Array.getElem?_eq_some_iff.1 HT3.out).1).trans HT3.out); have HN5 := Lib.hid hnum; clear hb5 hown hnum)
          | (go_at_call 35; refine (HWY.out _ _ _ HX5.out.below HN5.out).mono ?_; rintro e w6 ⟨rfl, hb6⟩; have HX6 := Lib.hid (HX5.out.later hb6); have HQ6 := Lib.hid (HQ5.out.later hb6); have HT6 : Hid (w6.heap[gt]? = some (.cells #[.slice ra m rc] 58 (0, 0))) := Lib.hid ((hb6.block gt (Array.getElem?_eq_some_iff.1 HT5.out).1).trans HT5.out); clear hb6))
      clear d0 d1 d2 d3 d4 d5 d6 d7 d8 d9
      go_wp2_with fail
      go_roundw
      case rel => exact ⟨i + 1, u + v, by go_num, rfl, by omega, HSN, HQ6, HX6⟩
      case measure => simp [intOf]; omega
    · obtain rfl : n = i := by omega
      have HTT : Hid (sumF (fun t => wayS x (truckN t)) p.tr = u) := Lib.hid (by rw [← HU.out, List.take_of_length_le (by rw [HN.out]; exact Nat.le_refl _)])
      have c1 := HQR.out.cell2.2
      clear HU
      go_wp2_with fail
      clear c1
      have HU0 : Hid (sumF (fun b : Int × List Int => wayS x (bikeN x b.1 b.2)) (p.bk.take 0) = u - u) := Lib.hid (by rw [List.take_zero, sumF_nil]; omega)
      obtain ⟨u1, hu1⟩ : ∃ u1, u = u1 := ⟨_, rfl⟩
      subst hu1
      go_loopw [7, 36] (fun mv iv wr => ∃ i : Nat, ∃ u2 : Int, iv = .int .i64 (i : Int) ∧ mv = .int .i64 u2 ∧ i ≤ n2 ∧ Hid (u + sumF (fun b : Int × List Int => wayS x (bikeN x b.1 b.2)) (p.bk.take i) = u2) ∧ Hid (CBox w wr (w.heap.size + 1) #[.slice P.ta n P.tc, .slice P.ba n2 P.bc] 42) ∧ Hid (CBox w wr w.heap.size (insC A x) 37)) (fun _ iv _ => n2 - (intOf iv).toNat)
      case atStart => exact ⟨0, u, rfl, rfl, Nat.zero_le _, Lib.hid (by rw [List.take_zero, sumF_nil]; omega), HQR, HXR⟩
      case round =>
        obtain ⟨i, u3, rfl, rfl, hi, HU2, HQS, HXS⟩ := hrel
        have HXR := HXS
        have HQR := HQS
        clear HU0 HXS HQS
        have hub2 := HBS.out i (by omega)
        have hub3 := HU2.out
        by_cases hlt : i < n2
        · obtain ⟨tb, to_, t, ra, rc, hta, htb, hg, htl, q0, q1, hpr⟩ := HP.out.bk.at_ (by rw [HN2.out]; exact hlt)
          have q0 := (HXR.out.below.cell (p := ⟨tb, to_ + i * 2, none⟩) htb).trans q0
          have q1 := (HXR.out.below.cell (p := ⟨tb, to_ + i * 2 + 1, none⟩) htb).trans q1
          have hok := HBW.out t (List.mem_of_getElem? hg)
          have hnl : (bikeN x t.1 t.2).length ≤ 1000 := by rw [bikeN_len]; have := hok.1; omega
          have HSN : Hid (sumF (fun b : Int × List Int => wayS x (bikeN x b.1 b.2)) (p.bk.take (i + 1)) = (u3 - u) + wayS x (bikeN x t.1 t.2)) := Lib.hid (by rw [sumF_next hg]; have := HU2.out; omega)
          have HCN : Hid (∀ W, Below w.heap.size w W → Calls Try.prog 21 #[.agg #[.int .i64 t.1, .slice ra t.2.length rc], .agg (insC A x)] W fun e w' => ∃ v, e = .returned v ∧ w'.ownsRow W.heap.size 3 1 v (bikeN x t.1 t.2).length (numsV (bikeN x t.1 t.2)) ∧ Below W.heap.size W w') := Lib.hid (fun W hb => bnodes_any A x t.1 ra rc t.2 W ((hpr.later hb).mono hb.size) (by omega) (by omega))
          have HWY : Hid (∀ W a rc, Below w.heap.size w W → IsNums W.heap.size W a (bikeN x t.1 t.2).length (bikeN x t.1 t.2) → Calls Try.prog 35 #[.agg (insC A x), .slice a (bikeN x t.1 t.2).length rc] W fun e w' => e = .returned (.int .i64 (wayS x (bikeN x t.1 t.2))) ∧ Below W.heap.size W w') := Lib.hid (fun W a rc hb hn => way_any A x a _ rc (bikeN x t.1 t.2) W ((HI.out.later hb).mono hb.size) HM.out hn (by omega) hok.2)
          have hvb := wayS_in HM.out hok.2 (by omega)
          obtain ⟨v, hv⟩ : ∃ v, wayS x (bikeN x t.1 t.2) = v := ⟨_, rfl⟩
          obtain ⟨m, hmm⟩ : ∃ m, t.2.length = m := ⟨_, rfl⟩
          obtain ⟨L, hL⟩ : ∃ L, (bikeN x t.1 t.2) = L := ⟨_, rfl⟩
          rw [hv] at HSN hvb HWY
          rw [hmm] at q1 htl HCN
          rw [hL] at HCN HWY
          unfold insC at HCN HWY
          rw [hta] at HQR ⊢
          have w1' : IntKind.i64.wrap (u3 + v) = u3 + v := by rw [IntKind.wrap_i64]; omega
          have HX2 := Lib.hid (HXR.out.alloc (.cells #[.int .i64 t.1, .slice ra m rc] 55))
          have HQ2 := Lib.hid (HQR.out.alloc (.cells #[.int .i64 t.1, .slice ra m rc] 55))
          have HT2 : Hid ((wr.alloc (.cells #[.int .i64 t.1, .slice ra m rc] 55)).heap[wr.heap.size]? = some (.cells #[.int .i64 t.1, .slice ra m rc] 55 (0, 0))) := Lib.hid (heap_alloc_new _ _)
          clear hta htb hg hpr hv hmm hL hok hnl
          go_upto_region 13 with fail
          obtain ⟨gt, hgt⟩ : ∃ gt, wr.heap.size = gt := ⟨_, rfl⟩
          obtain ⟨W2, hW2⟩ : ∃ W2, wr.alloc (.cells #[.int .i64 t.1, .slice ra m rc] 55) = W2 := ⟨_, rfl⟩
          rw [hW2] at HX2 HQ2 HT2
          rw [hgt] at HT2
          rw [hW2, hgt]
          clear hW2 hgt q0 q1
          have HX3 := Lib.hid HX2.out.drew
          have HQ3 := Lib.hid HQ2.out.drew
          have HT3 : Hid (W2.drew.heap[gt]? = some (.cells #[.int .i64 t.1, .slice ra m rc] 55 (0, 0))) := HT2
          have HCS : Hid (∀ W, CBox w W w.heap.size (insC A x) 37 → W.heap[gt]? = some (.cells #[.int .i64 t.1, .slice ra m rc] 55 (0, 0)) → W.cell? ⟨w.heap.size, 0, none⟩ = some (.int .i64 x.en) ∧ W.cell? ⟨w.heap.size, 1, none⟩ = some (.int .i64 x.tm) ∧ W.cell? ⟨w.heap.size, 2, none⟩ = some (.int .i64 x.tr) ∧ W.cell? ⟨w.heap.size, 3, none⟩ = some (.int .i64 x.bm) ∧ W.cell? ⟨w.heap.size, 4, none⟩ = some (.int .i64 x.br) ∧ W.cell? ⟨w.heap.size, 5, none⟩ = some (.slice A.sa x.sats.length A.sc) ∧ W.cell? ⟨w.heap.size, 6, none⟩ = some (.slice A.ca x.cus.length A.cc) ∧ W.cell? ⟨w.heap.size, 7, none⟩ = some (.slice A.ka x.cost.length A.kc) ∧ W.cell? ⟨w.heap.size, 8, none⟩ = some (.slice A.ta x.time.length A.tc) ∧ W.cell? ⟨gt, 0, none⟩ = some (.int .i64 t.1) ∧ W.cell? ⟨gt, 1, none⟩ = some (.slice ra m rc)) := Lib.hid (fun W h1 h2 => by
            obtain ⟨d0, d1, d2, d3, d4, d5, d6, d7, d8⟩ := CBox.inst (A := A) (x := x) h1
            exact ⟨d0, d1, d2, d3, d4, d5, d6, d7, d8, by simp [World.cell?, h2], by simp [World.cell?, h2]⟩)
          obtain ⟨d0, d1, d2, d3, d4, d5, d6, d7, d8, d9, e0⟩ := HCS.out _ HX3.out HT3.out
          clear HX2 HQ2 HT2
          go_region_held3 (fun W => W.cell? ⟨w.heap.size, 0, none⟩ = some (.int .i64 x.en) ∧ W.cell? ⟨w.heap.size, 1, none⟩ = some (.int .i64 x.tm) ∧ W.cell? ⟨w.heap.size, 2, none⟩ = some (.int .i64 x.tr) ∧ W.cell? ⟨w.heap.size, 3, none⟩ = some (.int .i64 x.bm) ∧ W.cell? ⟨w.heap.size, 4, none⟩ = some (.int .i64 x.br) ∧ W.cell? ⟨w.heap.size, 5, none⟩ = some (.slice A.sa x.sats.length A.sc) ∧ W.cell? ⟨w.heap.size, 6, none⟩ = some (.slice A.ca x.cus.length A.cc) ∧ W.cell? ⟨w.heap.size, 7, none⟩ = some (.slice A.ka x.cost.length A.kc) ∧ W.cell? ⟨w.heap.size, 8, none⟩ = some (.slice A.ta x.time.length A.tc) ∧ W.cell? ⟨gt, 0, none⟩ = some (.int .i64 t.1) ∧ W.cell? ⟨gt, 1, none⟩ = some (.slice ra m rc))
            (first | assumption | exact HCS.out _ HX3.out HT3.out | exact HCS.out _ HX5.out HT5.out | exact HCS.out _ HX6.out HT6.out)
            (first
              | (go_at_call 21; refine (HCN.out _ HX3.out.below).mono ?_; rintro e w5 ⟨v5, rfl, hown, hb5⟩; obtain ⟨a5, c5, rfl, hnum⟩ := owns_nums hown; have HX5 := Lib.hid (HX3.out.later hb5); have HQ5 := Lib.hid (HQ3.out.later hb5); have HT5 : Hid (w5.heap[gt]? = some (.cells #[.int .i64 t.1, .slice ra m rc] 55 (0, 0))) := Lib.hid ((hb5.block gt (Array.getElem?_eq_some_iff.1 HT3.out).1).trans HT3.out); have HN5 := Lib.hid hnum; clear hb5 hown hnum)
              | (go_at_call 35; refine (HWY.out _ _ _ HX5.out.below HN5.out).mono ?_; rintro e w6 ⟨rfl, hb6⟩; have HX6 := Lib.hid (HX5.out.later hb6); have HQ6 := Lib.hid (HQ5.out.later hb6); have HT6 : Hid (w6.heap[gt]? = some (.cells #[.int .i64 t.1, .slice ra m rc] 55 (0, 0))) := Lib.hid ((hb6.block gt (Array.getElem?_eq_some_iff.1 HT5.out).1).trans HT5.out); clear hb6))
          clear d0 d1 d2 d3 d4 d5 d6 d7 d8 d9 e0
          go_wp2_with fail
          go_roundw
          case rel => exact ⟨i + 1, u3 + v, by go_num, rfl, by omega, Lib.hid (by have := HSN.out; omega), HQ6, HX6⟩
          case measure => simp [intOf]; omega
        · obtain rfl : n2 = i := by omega
          have HE : Hid (costP x p = u3) := Lib.hid (by
            unfold costP
            rw [HTT.out, ← HU2.out, List.take_of_length_le (l := p.bk) (by rw [HN2.out]; exact Nat.le_refl _)])
          go_wp2_with fail
          go_ret2
          exact ⟨_, _, rfl, HPE.out, fun _ => HE.out.symm, fun h => absurd rfl h, HXR.out.below⟩
end Go.Proofs.Ytmnbpnjakbihdaa
