/- The walk of the law on great instances, told and read again. -/
import Derived.Test.YtnnddmojcaicbaaDoorBackT
import Derived.Test.YtnnddmojcaicbaaDoorShowRead
import Derived.Deep.RegionHeld3
import Derived.Deep.RegionWith
import Derived.Deep.CutRange
import Derived.BigRegion
namespace Go.Proofs.YtnnddmojcaicbaaDoor
open Go.RowKit

theorem mod_natB (a : Int) (n : Nat) (h : 0 < n) (ha : 0 ≤ a) : ∃ k : Nat, (a.tmod (n : Int) = (k : Int) ∧ a % (n : Int) = (k : Int)) ∧ k < n := by
  rw [Int.tmod_eq_emod_of_nonneg ha]
  have h1 := Int.emod_nonneg a (show (n : Int) ≠ 0 by omega)
  have h2 := Int.emod_lt_of_pos a (show (0 : Int) < (n : Int) by omega)
  exact ⟨(a % (n : Int)).toNat, ⟨by omega, by omega⟩, by omega⟩
theorem Big.box {w : World} {gx B N C D : Nat} {A : InA} {x : Ins} {VK VT : Nat → Nat} {LK LT : Nat → Nat → Int} (h : Big w gx B A x N C D VK VT LK LT) : Fin w gx A x := h.fr.fin
theorem may_err {x : Ins} (h : May x) : instErr x = 0 := by
  obtain ⟨r1, _, r3⟩ := show_read h
  have h2 := textI_may r3
  rwa [r1] at h2
theorem cell_same {w W : World} {g : Nat} (h : W.heap[g]? = w.heap[g]?) (i : Nat) : W.cell? ⟨g, i, none⟩ = w.cell? ⟨g, i, none⟩ := by simp [World.cell?, h]
theorem Fresh.vk_ge {wr : World} {gx B N C D i : Nat} {A : InA} {x : Ins} {VK VT : Nat → Nat} {LK LT : Nat → Nat → Int} (h : Fresh wr gx B A x N C D VK VT LK LT) (hi : i < N) : B ≤ VK i := Nat.le_trans h.own.bc (h.own.cost.row i hi).2
theorem Fresh.vt_geB {wr : World} {gx B N C D i : Nat} {A : InA} {x : Ins} {VK VT : Nat → Nat} {LK LT : Nat → Nat → Int} (h : Fresh wr gx B A x N C D VK VT LK LT) (hi : i < N) : B ≤ VT i := Nat.le_trans h.own.bc (Nat.le_trans h.own.cd (h.own.time.row i hi).2)
theorem Big.apartK {wr : World} {gx B N C D i gk gt : Nat} {A : InA} {x : Ins} {VK VT : Nat → Nat} {LK LT : Nat → Nat → Int} (h : Big wr gx B A x N C D VK VT LK LT) (hi : i < N) (hk : A.ka = some ⟨gk, 0, none⟩) (ht : A.ta = some ⟨gt, 0, none⟩) : gx ≠ VK i ∧ gk ≠ VK i ∧ gt ≠ VK i := by
  obtain ⟨cur, hcur⟩ := rowIs_block (h.fr.own.cost.row i hi).1
  have h1 := h.fr.own.cost.outer
  have h2 := h.fr.own.time.outer
  rw [hk] at h1
  rw [ht] at h2
  obtain ⟨c1, h1⟩ := own_block h1 (g := gk) rfl
  obtain ⟨c2, h2⟩ := own_block h2 (g := gt) rfl
  exact ⟨blk_types h.fr.box hcur (by decide), blk_types h1 hcur (by decide), blk_types h2 hcur (by decide)⟩
theorem Big.apartT {wr : World} {gx B N C D i gk gt : Nat} {A : InA} {x : Ins} {VK VT : Nat → Nat} {LK LT : Nat → Nat → Int} (h : Big wr gx B A x N C D VK VT LK LT) (hi : i < N) (hk : A.ka = some ⟨gk, 0, none⟩) (ht : A.ta = some ⟨gt, 0, none⟩) : gx ≠ VT i ∧ gk ≠ VT i ∧ gt ≠ VT i := by
  obtain ⟨cur, hcur⟩ := rowIs_block (h.fr.own.time.row i hi).1
  have h1 := h.fr.own.cost.outer
  have h2 := h.fr.own.time.outer
  rw [hk] at h1
  rw [ht] at h2
  obtain ⟨c1, h1⟩ := own_block h1 (g := gk) rfl
  obtain ⟨c2, h2⟩ := own_block h2 (g := gt) rfl
  exact ⟨blk_types h.fr.box hcur (by decide), blk_types h1 hcur (by decide), blk_types h2 hcur (by decide)⟩
set_option maxHeartbeats 8000000 in
set_option maxRecDepth 100000 in
theorem showBack_walk (H : ShowSpec) (A : SmA) (s : Sm) (ba : Option Addr) (len cap : Nat) (zs : List Int) (_hlen : len ≤ maxLen) (w : World) (hs : IsSm w.heap.size w A s) (hz : IsU32 w.heap.size w ba len zs) (ht : Tab w) :
    Calls Tryd.prog 5 #[.agg (smC A s), .slice ba len cap] w (Holds w) := by
  unfold maxLen at _hlen
  have HT := Lib.hid ht
  have HH := Lib.hid H
  have HS := Lib.hid (SBox.make w A s)
  have HSM := Lib.hid hs
  have HZ := Lib.hid hz
  have HMK := Lib.hid (fun (W : World) (h : IsSm W.heap.size W A s) => make_any A s W h)
  have HM := Lib.hid (may_make hs.okl)
  have hn1 : 1 ≤ (makeI s).sats.length ∧ (makeI s).sats.length ≤ 3 := satsOf_le s
  have hn2 : 1 ≤ (makeI s).cus.length ∧ (makeI s).cus.length ≤ 6 := cusOf_le s
  have hn4 : 3 ≤ nodesOf s ∧ nodesOf s ≤ 10 := nodes_le s
  have HN6 : Hid ((makeI s).nodes = nodesOf s) := Lib.hid rfl
  obtain ⟨m, hm⟩ : ∃ m, makeI s = m := ⟨_, rfl⟩
  obtain ⟨N, hN⟩ : ∃ N, nodesOf s = N := ⟨_, rfl⟩
  rw [hm] at hn1 hn2 HMK HM HN6
  rw [hN] at hn4 HMK HN6
  clear hm hN hs ht H hz
  unfold Holds
  unfold smC insC at *
  go_enter Tryd.func5, Tryd.ntmps5
  go_upto_region 4 with (first
    | (go_at_call 8; refine (show_awake HH.out _ (HT.out.later HS.out.below)).mono ?_; rintro e w1 ⟨rfl, hb1⟩; have HS1 := Lib.hid (HS.out.later hb1); obtain ⟨j0, j1, j2, j3, j4, j5, j6, j7, j8, j9, j10⟩ := HS1.out.cells; clear hb1)
    | (go_at_call 11; refine (HMK.out _ (HS1.out.here HSM.out)).mono ?_; rintro e w2 ⟨⟨A2, rfl, C, D, VK, VT, hown⟩, hb2⟩; have HB2 := Lib.hid (HS1.out.below.trans (hb2.mono HS1.out.below.size)); have HO2 := Lib.hid hown; clear hown hb2 j0 j1 j2 j3 j4 j5 j6 j7 j8 j9 j10))
  have HI3 : Hid (Inv w (w2.alloc (.cells (insC A2 m) 38)) w2.heap.size A2 N m.sats.length) := Lib.hid ⟨_, C, D, VK, VT, _, _, m, ⟨⟨heap_alloc_new w2 _, HO2.out.later (below1 _ _), hn1.2, hn2.2, hn4.2⟩, HM.out, HN6.out⟩, Nat.le_trans HS1.out.below.size (Nat.le_add_right _ _), HB2.out.trans ((below1 _ _).mono HB2.out.size), rfl⟩
  obtain ⟨ln, hln⟩ : ∃ ln, m.sats.length = ln := ⟨_, rfl⟩
  have hl1 : 1 ≤ ln ∧ ln ≤ 3 := by omega
  rw [hln] at HI3
  unfold insC at HI3
  obtain ⟨w3, hw3⟩ : ∃ z, z = w2.alloc (.cells #[.int .i64 m.en, .int .i64 m.tm, .int .i64 m.tr, .int .i64 m.bm, .int .i64 m.br, .slice A2.sa m.sats.length A2.sc, .slice A2.ca m.cus.length A2.cc, .slice A2.ka m.cost.length A2.kc, .slice A2.ta m.time.length A2.tc] 38) := ⟨_, rfl⟩
  have hsz : w2.heap.size = w2.heap.size := rfl
  obtain ⟨gx, hgx⟩ : ∃ b, b = w2.heap.size := ⟨_, rfl⟩
  rw [← hw3, ← hgx] at HI3
  rw [← hln] at *
  try rw [← hw3, ← hgx]
  clear hw3 hgx hsz HO2 HB2 HMK HSM HS HS1 HM HN6 hn1 hn2
  go_cut [17, 18, 19] from 17 to 19 (fun p q r wx => p = .slice ba len cap ∧ q = .int .i64 (len : Int) ∧ r = .int .i64 0 ∧ Inv w wx gx A2 N m.sats.length)
  case first =>
    go_wp2_with fail
    go_meet
    exact ⟨rfl, rfl, rfl, HI3.out⟩
  case rest =>
    obtain ⟨hp, hq, hr, hI⟩ := hcut
    subst hp hq hr
    clear HI3
    have HI3 := Lib.hid hI
    clear hI
    go_step
    go_cut [] from 6 to 74 (fun wx => Inv w wx gx A2 N m.sats.length)
    case first =>
      go_wp2_with fail
      go_loopw [19] (fun i wr => ∃ k : Nat, i = .int .i64 (k : Int) ∧ k ≤ len ∧ Hid (Inv w wr gx A2 N m.sats.length)) (fun i _ => len - (intOf i).toNat)
      case atStart => exact ⟨0, rfl, Nat.zero_le _, HI3⟩
      case round =>
        obtain ⟨k, rfl, hk, HK⟩ := hrel
        clear HI3
        by_cases hlt : k < len
        · obtain ⟨B, C, D, VK, VT, LK, LT, x, hbig, hB, hBw, hxl⟩ := HK.out
          obtain ⟨b, off, z, rfl, hzk, hzz, hcz⟩ := (HZ.out.later hBw).at_ hlt
          have HBG := Lib.hid hbig
          have HBW := Lib.hid hBw
          have HBB := Lib.hid hB
          have HXL := Lib.hid hxl
          by_cases h60 : 60 ≤ k
          · have hd : decide ((60 : Int) ≤ (k : Int)) = true := by simp; omega
            clear hbig hBw hB hzk hxl
            go_wp2_with fail
            go_meet
            exact HK.out
          · have hd : decide ((60 : Int) ≤ (k : Int)) = false := by simp; omega
            clear hbig hBw hB hzk hxl HK
            obtain ⟨c, hc, hcN⟩ := mod_natB (k : Int) N (by omega) (by omega)
            obtain ⟨d, hd2, hdN⟩ := mod_natB (((k / 2 + k / 7 : Nat) : Int)) N (by omega) (by omega)
            have hc1 := hc.1
            have hc2 := hc.2
            have hd3 := hd2.1
            have hd4 := hd2.2
            clear hc hd2
            go_upto_region 8 with fail
            go_cut [8, 9] from 26 to 37 (fun p q wx => p = .int .i64 (c : Int) ∧ q = .int .i64 (d : Int) ∧ Big wx gx B A2 x N C D VK VT LK LT ∧ Below w.heap.size w wx)
            case first =>
              have HG0 := Lib.hid (HBG.out.later (Below.refl _ wr).drew)
              have HW0 := Lib.hid (HBW.out.drew)
              refine wp_region_held_drew (S := (fun Wz => Wz.heap[gx]? = some (.cells #[.int .i64 x.en, .int .i64 x.tm, .int .i64 x.tr, .int .i64 x.bm, .int .i64 x.br, .slice A2.sa x.sats.length A2.sc, .slice A2.ca x.cus.length A2.cc, .slice A2.ka x.cost.length A2.kc, .slice A2.ta x.time.length A2.tc] 38 (0, 0)))) (by kernel_rfl) HG0.out.fr.box (fun hHeld => ?_)
              obtain ⟨v, hv⟩ : ∃ v, v = wr.drew := ⟨_, rfl⟩
              rw [← hv] at HG0 HW0 hHeld ⊢
              clear hv
              refine wpAnyH_take (i := 0) (v := ?_) rfl (by kernel_rfl) (by kernel_rfl) (by kernel_rfl) (fun _ _ _ h => h) (Or.inl ⟨by rfl, ?_⟩) hHeld ?_
              rotate_left
              · intro Wz hWz; clear hWz; go_simp; (try with_reducible rfl)
              try simp only [Act.put, List.setIfInBounds_toArray, List.set_cons_zero, List.set_cons_succ, List.getElem_toArray, List.getElem_cons_zero]
              refine wpAnyH_take (i := 1) (v := ?_) rfl (by kernel_rfl) (by kernel_rfl) (by kernel_rfl) (fun _ _ _ h => h) (Or.inl ⟨by rfl, ?_⟩) hHeld ?_
              rotate_left
              · intro Wz hWz; obtain ⟨k0, k1, k2, k3, k4, k5, k6, k7, k8, _⟩ := cells9 hWz; go_simp; (try with_reducible rfl)
              try simp only [Act.put, List.setIfInBounds_toArray, List.set_cons_zero, List.set_cons_succ, List.getElem_toArray, List.getElem_cons_zero, List.getElem_cons_succ]
              refine wpAnyH_take (i := 4) (v := ?_) rfl (by kernel_rfl) (by kernel_rfl) (by kernel_rfl) (fun _ _ _ h => h) (Or.inl ⟨by rfl, ?_⟩) hHeld ?_
              rotate_left
              · intro Wz hWz; clear hWz; go_simp; (try with_reducible rfl)
              try simp only [Act.put, List.setIfInBounds_toArray, List.set_cons_zero, List.set_cons_succ, List.getElem_toArray, List.getElem_cons_zero, List.getElem_cons_succ]
              refine wpAnyH_take (i := 5) (v := ?_) rfl (by kernel_rfl) (by kernel_rfl) (by kernel_rfl) (fun _ _ _ h => h) (Or.inl ⟨by rfl, ?_⟩) hHeld ?_
              rotate_left
              · intro Wz hWz; clear hWz; go_simp; (try with_reducible rfl)
              try simp only [Act.put, List.setIfInBounds_toArray, List.set_cons_zero, List.set_cons_succ, List.getElem_toArray, List.getElem_cons_zero, List.getElem_cons_succ]
              refine wpAnyH_take (i := 6) (v := ?_) rfl (by kernel_rfl) (by kernel_rfl) (by kernel_rfl) (fun _ _ _ h => h) (Or.inl ⟨by rfl, ?_⟩) hHeld ?_
              rotate_left
              · intro Wz hWz; clear hWz; go_simp; (try with_reducible rfl)
              try simp only [Act.put, List.setIfInBounds_toArray, List.set_cons_zero, List.set_cons_succ, List.getElem_toArray, List.getElem_cons_zero, List.getElem_cons_succ]
              refine wpAnyH_take (i := 7) (v := ?_) rfl (by kernel_rfl) (by kernel_rfl) (by kernel_rfl) (fun _ _ _ h => h) (Or.inl ⟨by rfl, ?_⟩) hHeld ?_
              rotate_left
              · intro Wz hWz; clear hWz; go_simp; (try with_reducible rfl)
              try simp only [Act.put, List.setIfInBounds_toArray, List.set_cons_zero, List.set_cons_succ, List.getElem_toArray, List.getElem_cons_zero, List.getElem_cons_succ]
              refine wpAnyH_take (i := 8) (v := ?_) rfl (by kernel_rfl) (by kernel_rfl) (by kernel_rfl) (fun _ _ _ h => h) (Or.inl ⟨by rfl, ?_⟩) hHeld ?_
              rotate_left
              · intro Wz hWz; clear hWz; go_simp; (try with_reducible rfl)
              try simp only [Act.put, List.setIfInBounds_toArray, List.set_cons_zero, List.set_cons_succ, List.getElem_toArray, List.getElem_cons_zero, List.getElem_cons_succ]
              refine wpAnyH_take (i := 9) (v := ?_) rfl (by kernel_rfl) (by kernel_rfl) (by kernel_rfl) (fun _ _ _ h => h) (Or.inl ⟨by rfl, ?_⟩) hHeld ?_
              rotate_left
              · intro Wz hWz; obtain ⟨k0, k1, k2, k3, k4, k5, k6, k7, k8, _⟩ := cells9 hWz; go_simp; (try with_reducible rfl)
              try simp only [Act.put, List.setIfInBounds_toArray, List.set_cons_zero, List.set_cons_succ, List.getElem_toArray, List.getElem_cons_zero, List.getElem_cons_succ]
              have wq1 : IntKind.i64.wrap ((k : Int) / 2) = (k : Int) / 2 := by rw [IntKind.wrap_i64]; omega
              have wq2 : IntKind.i64.wrap ((k : Int) / 7) = (k : Int) / 7 := by rw [IntKind.wrap_i64]; omega
              have wq3 : IntKind.i64.wrap ((k : Int) / 2 + (k : Int) / 7) = ((k / 2 + k / 7 : Nat) : Int) := by rw [IntKind.wrap_i64]; omega
              simp only [wq1, wq2, wq3]
              clear wq1 wq2 wq3
              have hN0 : ¬ (N : Int) = 0 := by omega
              have hN1 : ((N : Int) == 0) = false := by simpa using hN0
              have hN9 : ¬ N = 0 := by omega
              have hd5 : ((k : Int) / 2 + (k : Int) / 7).tmod (N : Int) = (d : Int) := by have := hd3; simpa using this
              refine wpAnyH_ready (rs := [2]) (by kernel_rfl) (by simp) ?_
              refine AllReadyH.cons rfl (fun K hK => ?_) AllReadyH.nil
              go_simp
              refine (nodesB A2 x N HG0.out.nodes _ (by have h1 := HG0.out.fr.ns; have h2 := HG0.out.fr.nc; omega)).mono ?_
              rintro e va ⟨rfl, hb⟩
              have HG1 := Lib.hid (HG0.out.later hb)
              have HW1 := Lib.hid (HW0.out.trans (hb.mono HW0.out.size))
              clear hb
              refine hK.out _ _ ?_ (fun hHeld => ?_)
              · exact HG1.out.fr.box
              clear hK K
              try simp only [Act.put, List.setIfInBounds_toArray, List.set_cons_zero, List.set_cons_succ, List.getElem_toArray, List.getElem_cons_zero, List.getElem_cons_succ]
              refine wpAnyH_take (i := 3) (v := ?_) rfl (by kernel_rfl) (by kernel_rfl) (by kernel_rfl) (fun _ _ _ h => h) (Or.inl ⟨by rfl, ?_⟩) hHeld ?_
              rotate_left
              · intro Wz hWz; clear hWz; go_simp; (try with_reducible rfl)
              try simp only [Act.put, List.setIfInBounds_toArray, List.set_cons_zero, List.set_cons_succ, List.getElem_toArray, List.getElem_cons_zero, List.getElem_cons_succ]
              try simp only [hc1, hc2, hd3, hd4]
              refine wpAnyH_ready (rs := [10]) (by kernel_rfl) (by simp) ?_
              refine AllReadyH.cons rfl (fun K hK => ?_) AllReadyH.nil
              go_simp
              refine (nodesB A2 x N HG1.out.nodes _ (by have h1 := HG1.out.fr.ns; have h2 := HG1.out.fr.nc; omega)).mono ?_
              rintro e vb ⟨rfl, hb⟩
              have HG2 := Lib.hid (HG1.out.later hb)
              have HW2 := Lib.hid (HW1.out.trans (hb.mono HW1.out.size))
              clear hb
              refine hK.out _ _ ?_ (fun hHeld => ?_)
              · exact HG2.out.fr.box
              clear hK K
              try simp only [Act.put, List.setIfInBounds_toArray, List.set_cons_zero, List.set_cons_succ, List.getElem_toArray, List.getElem_cons_zero, List.getElem_cons_succ]
              refine wpAnyH_take (i := 11) (v := ?_) rfl (by kernel_rfl) (by kernel_rfl) (by kernel_rfl) (fun _ _ _ h => h) (Or.inl ⟨by rfl, ?_⟩) hHeld ?_
              rotate_left
              · intro Wz hWz; clear hWz; go_simp; (try with_reducible rfl)
              try simp only [Act.put, List.setIfInBounds_toArray, List.set_cons_zero, List.set_cons_succ, List.getElem_toArray, List.getElem_cons_zero, List.getElem_cons_succ]
              try simp only [hc1, hc2, hd3, hd4]
              refine wpAnyH_take (i := 12) (v := ?_) rfl (by kernel_rfl) (by kernel_rfl) (by kernel_rfl) (fun _ _ _ h => h) (Or.inl ⟨by rfl, ?_⟩) hHeld ?_
              rotate_left
              · intro Wz hWz; clear hWz; go_simp; (try with_reducible rfl)
              try simp only [Act.put, List.setIfInBounds_toArray, List.set_cons_zero, List.set_cons_succ, List.getElem_toArray, List.getElem_cons_zero, List.getElem_cons_succ]
              refine wpAnyH_take (i := 13) (v := ?_) rfl (by kernel_rfl) (by kernel_rfl) (by kernel_rfl) (fun _ _ _ h => h) (Or.inl ⟨by rfl, ?_⟩) hHeld ?_
              rotate_left
              · intro Wz hWz; clear hWz; go_simp; (try with_reducible rfl)
              try simp only [Act.put, List.setIfInBounds_toArray, List.set_cons_zero, List.set_cons_succ, List.getElem_toArray, List.getElem_cons_zero, List.getElem_cons_succ]
              refine wpAnyH_done (by kernel_rfl) ?_ _
              clear hHeld
              go_wp2_with fail
              go_meet
              exact ⟨rfl, rfl, HG2.out, HW2.out⟩
            case rest =>
              obtain ⟨hp, hq, hbg, hbw⟩ := hcut
              subst hp hq
              have HG := Lib.hid hbg
              have HW := Lib.hid hbw
              clear hbg hbw HBG HBW
              go_step
              go_step
              go_cut [] from 38 to 61 (fun wx => Inv w wx gx A2 N m.sats.length)
              case first =>
                by_cases hcd : c = d
                · subst hcd
                  go_wp2_with fail
                  go_meet
                  exact ⟨_, _, _, _, _, _, _, _, HG.out, HBB.out, HW.out, HXL.out⟩
                · have hcd2 : decide ((c : Int) = (d : Int)) = false := by simp; omega
                  have hcd3 : ((c : Int) == (d : Int)) = false := by simp; omega
                  have hcd4 : ¬ (c : Int) = (d : Int) := by omega
                  go_upto_region 10 with fail
                  obtain ⟨gk, hka, hk1, hk2, hk3⟩ := HG.out.fr.own.cost.cell_ (i := c) (k := d) hcN hdN
                  obtain ⟨gt, hta, ht1, ht2, ht3⟩ := HG.out.fr.own.time.cell_ (i := d) (k := c) hdN hcN
                  have hkl : c < x.cost.length := by rw [HG.out.fr.klen.1]; exact hcN
                  have htl : d < x.time.length := by rw [HG.out.fr.klen.2]; exact hdN
                  obtain ⟨-, -, -, -, -, -, -, k7, k8⟩ := HG.out.fr.fin.cells
                  rw [hka] at k7
                  rw [hta] at k8
                  have HKA := Lib.hid hka
                  have HTA := Lib.hid hta
                  clear hka hta
                  have HG0 := Lib.hid (HG.out.later (Below.refl _ wc).drew)
                  have HW0 := Lib.hid HW.out.drew
                  refine wp_region_held_drew (S := (fun Wz => Wz.heap[gx]? = wc.heap[gx]? ∧ Wz.heap[gk]? = wc.heap[gk]? ∧ Wz.heap[gt]? = wc.heap[gt]?)) (by kernel_rfl) ⟨rfl, rfl, rfl⟩ (fun hHeld => ?_)
                  refine wpAnyH_take (i := 0) (v := ?_) rfl (by kernel_rfl) (by kernel_rfl) (by kernel_rfl) (fun _ _ _ h => h) (Or.inl ⟨by rfl, ?_⟩) hHeld ?_
                  rotate_left
                  · intro Wz hWz; clear hWz; go_simp; (try with_reducible rfl)
                  try simp only [Act.put, List.setIfInBounds_toArray, List.set_cons_zero, List.set_cons_succ, List.getElem_toArray, List.getElem_cons_zero]
                  refine wpAnyH_take (i := 1) (v := ?_) rfl (by kernel_rfl) (by kernel_rfl) (by kernel_rfl) (fun _ _ _ h => h) (Or.inl ⟨by rfl, ?_⟩) hHeld ?_
                  rotate_left
                  · intro Wz hWz; obtain ⟨e1, e2, e3⟩ := hWz; have q7 := (cell_same e1 7).trans k7; have q8 := (cell_same e1 8).trans k8; have q9 := (cell_same e2 c).trans hk1; have q10 := (cell_same e3 d).trans ht1; clear e1 e2 e3; go_simp; (try with_reducible rfl)
                  try simp only [Act.put, List.setIfInBounds_toArray, List.set_cons_zero, List.set_cons_succ, List.getElem_toArray, List.getElem_cons_zero, List.getElem_cons_succ]
                  refine wpAnyH_take (i := 2) (v := ?_) rfl (by kernel_rfl) (by kernel_rfl) (by kernel_rfl) (fun _ _ _ h => h) (Or.inl ⟨by rfl, ?_⟩) hHeld ?_
                  rotate_left
                  · intro Wz hWz; clear hWz; go_simp; (try with_reducible rfl)
                  try simp only [Act.put, List.setIfInBounds_toArray, List.set_cons_zero, List.set_cons_succ, List.getElem_toArray, List.getElem_cons_zero, List.getElem_cons_succ]
                  refine wpAnyH_take (i := 3) (v := ?_) rfl (by kernel_rfl) (by kernel_rfl) (by kernel_rfl) (fun _ _ _ h => h) (Or.inl ⟨by rfl, ?_⟩) hHeld ?_
                  rotate_left
                  · intro Wz hWz; clear hWz; go_simp; (try with_reducible rfl)
                  try simp only [Act.put, List.setIfInBounds_toArray, List.set_cons_zero, List.set_cons_succ, List.getElem_toArray, List.getElem_cons_zero, List.getElem_cons_succ]
                  refine wpAnyH_take (i := 4) (v := ?_) rfl (by kernel_rfl) (by kernel_rfl) (by kernel_rfl) (fun _ _ _ h => h) (Or.inl ⟨by rfl, ?_⟩) hHeld ?_
                  rotate_left
                  · intro Wz hWz; obtain ⟨e1, e2, e3⟩ := hWz; have q7 := (cell_same e1 7).trans k7; have q8 := (cell_same e1 8).trans k8; have q9 := (cell_same e2 c).trans hk1; have q10 := (cell_same e3 d).trans ht1; clear e1 e2 e3; go_simp; (try with_reducible rfl)
                  try simp only [Act.put, List.setIfInBounds_toArray, List.set_cons_zero, List.set_cons_succ, List.getElem_toArray, List.getElem_cons_zero, List.getElem_cons_succ]
                  refine wpAnyH_take (i := 5) (v := ?_) rfl (by kernel_rfl) (by kernel_rfl) (by kernel_rfl) (fun _ _ _ h => h) (Or.inl ⟨by rfl, ?_⟩) hHeld ?_
                  rotate_left
                  · intro Wz hWz; clear hWz; go_simp; (try with_reducible rfl)
                  try simp only [Act.put, List.setIfInBounds_toArray, List.set_cons_zero, List.set_cons_succ, List.getElem_toArray, List.getElem_cons_zero, List.getElem_cons_succ]
                  refine wpAnyH_take (i := 6) (v := ?_) rfl (by kernel_rfl) (by kernel_rfl) (by kernel_rfl) (fun _ _ _ h => h) (Or.inl ⟨by rfl, ?_⟩) hHeld ?_
                  rotate_left
                  · intro Wz hWz; clear hWz; go_simp; (try with_reducible rfl)
                  try simp only [Act.put, List.setIfInBounds_toArray, List.set_cons_zero, List.set_cons_succ, List.getElem_toArray, List.getElem_cons_zero, List.getElem_cons_succ]
                  refine wpAnyH_take (i := 7) (v := ?_) rfl (by kernel_rfl) (by kernel_rfl) (by kernel_rfl) (fun _ _ _ h => h) (Or.inl ⟨by rfl, ?_⟩) hHeld ?_
                  rotate_left
                  · intro Wz hWz; obtain ⟨e1, e2, e3⟩ := hWz; have q7 := (cell_same e1 7).trans k7; have q8 := (cell_same e1 8).trans k8; have q9 := (cell_same e2 c).trans hk1; have q10 := (cell_same e3 d).trans ht1; clear e1 e2 e3; go_simp; (try with_reducible rfl)
                  try simp only [Act.put, List.setIfInBounds_toArray, List.set_cons_zero, List.set_cons_succ, List.getElem_toArray, List.getElem_cons_zero, List.getElem_cons_succ]
                  refine wpAnyH_take (i := 8) (v := ?_) rfl (by kernel_rfl) (by kernel_rfl) (by kernel_rfl) (fun _ _ _ h => h) (Or.inl ⟨by rfl, ?_⟩) hHeld ?_
                  rotate_left
                  · intro Wz hWz; clear hWz; go_simp; (try with_reducible rfl)
                  try simp only [Act.put, List.setIfInBounds_toArray, List.set_cons_zero, List.set_cons_succ, List.getElem_toArray, List.getElem_cons_zero, List.getElem_cons_succ]
                  refine wpAnyH_take (i := 9) (v := ?_) rfl (by kernel_rfl) (by kernel_rfl) (by kernel_rfl) (fun _ _ _ h => h) (Or.inl ⟨by rfl, ?_⟩) hHeld ?_
                  rotate_left
                  · intro Wz hWz; clear hWz; go_simp; (try with_reducible rfl)
                  try simp only [Act.put, List.setIfInBounds_toArray, List.set_cons_zero, List.set_cons_succ, List.getElem_toArray, List.getElem_cons_zero, List.getElem_cons_succ]
                  refine wpAnyH_take (i := 10) (v := ?_) rfl (by kernel_rfl) (by kernel_rfl) (by kernel_rfl) (fun _ _ _ h => h) (Or.inl ⟨by rfl, ?_⟩) hHeld ?_
                  rotate_left
                  · intro Wz hWz; obtain ⟨e1, e2, e3⟩ := hWz; have q7 := (cell_same e1 7).trans k7; have q8 := (cell_same e1 8).trans k8; have q9 := (cell_same e2 c).trans hk1; have q10 := (cell_same e3 d).trans ht1; clear e1 e2 e3; go_simp; (try with_reducible rfl)
                  try simp only [Act.put, List.setIfInBounds_toArray, List.set_cons_zero, List.set_cons_succ, List.getElem_toArray, List.getElem_cons_zero, List.getElem_cons_succ]
                  refine wpAnyH_take (i := 11) (v := ?_) rfl (by kernel_rfl) (by kernel_rfl) (by kernel_rfl) (fun _ _ _ h => h) (Or.inl ⟨by rfl, ?_⟩) hHeld ?_
                  rotate_left
                  · intro Wz hWz; clear hWz; go_simp; (try with_reducible rfl)
                  try simp only [Act.put, List.setIfInBounds_toArray, List.set_cons_zero, List.set_cons_succ, List.getElem_toArray, List.getElem_cons_zero, List.getElem_cons_succ]
                  refine wpAnyH_take (i := 12) (v := ?_) rfl (by kernel_rfl) (by kernel_rfl) (by kernel_rfl) (fun _ _ _ h => h) (Or.inl ⟨by rfl, ?_⟩) hHeld ?_
                  rotate_left
                  · intro Wz hWz; clear hWz; go_simp; (try with_reducible rfl)
                  try simp only [Act.put, List.setIfInBounds_toArray, List.set_cons_zero, List.set_cons_succ, List.getElem_toArray, List.getElem_cons_zero, List.getElem_cons_succ]
                  refine wpAnyH_take (i := 13) (v := ?_) rfl (by kernel_rfl) (by kernel_rfl) (by kernel_rfl) (fun _ _ _ h => h) (Or.inl ⟨by rfl, ?_⟩) hHeld ?_
                  rotate_left
                  · intro Wz hWz; clear hWz; go_simp; (try with_reducible rfl)
                  try simp only [Act.put, List.setIfInBounds_toArray, List.set_cons_zero, List.set_cons_succ, List.getElem_toArray, List.getElem_cons_zero, List.getElem_cons_succ]
                  refine wpAnyH_take (i := 14) (v := ?_) rfl (by kernel_rfl) (by kernel_rfl) (by kernel_rfl) (fun _ _ _ h => h) (Or.inl ⟨by rfl, ?_⟩) hHeld ?_
                  rotate_left
                  · intro Wz hWz; clear hWz; go_simp; (try with_reducible rfl)
                  try simp only [Act.put, List.setIfInBounds_toArray, List.set_cons_zero, List.set_cons_succ, List.getElem_toArray, List.getElem_cons_zero, List.getElem_cons_succ]
                  refine wpAnyH_take (i := 15) (v := ?_) rfl (by kernel_rfl) (by kernel_rfl) (by kernel_rfl) (fun _ _ _ h => h) (Or.inl ⟨by rfl, ?_⟩) hHeld ?_
                  rotate_left
                  · intro Wz hWz; clear hWz; go_simp; (try with_reducible rfl)
                  try simp only [Act.put, List.setIfInBounds_toArray, List.set_cons_zero, List.set_cons_succ, List.getElem_toArray, List.getElem_cons_zero, List.getElem_cons_succ]
                  refine wpAnyH_take (i := 16) (v := ?_) rfl (by kernel_rfl) (by kernel_rfl) (by kernel_rfl) (fun _ _ _ h => h) (Or.inl ⟨by rfl, ?_⟩) hHeld ?_
                  rotate_left
                  · intro Wz hWz; clear hWz; go_simp; (try with_reducible rfl)
                  try simp only [Act.put, List.setIfInBounds_toArray, List.set_cons_zero, List.set_cons_succ, List.getElem_toArray, List.getElem_cons_zero, List.getElem_cons_succ]
                  refine wpAnyH_take (i := 17) (v := ?_) rfl (by kernel_rfl) (by kernel_rfl) (by kernel_rfl) (fun _ _ _ h => h) (Or.inl ⟨by rfl, ?_⟩) hHeld ?_
                  rotate_left
                  · intro Wz hWz; clear hWz; go_simp; (try with_reducible rfl)
                  try simp only [Act.put, List.setIfInBounds_toArray, List.set_cons_zero, List.set_cons_succ, List.getElem_toArray, List.getElem_cons_zero, List.getElem_cons_succ]
                  refine wpAnyH_take (i := 18) (v := ?_) rfl (by kernel_rfl) (by kernel_rfl) (by kernel_rfl) (fun _ _ _ h => h) (Or.inl ⟨by rfl, ?_⟩) hHeld ?_
                  rotate_left
                  · intro Wz hWz; clear hWz; go_simp; (try with_reducible rfl)
                  try simp only [Act.put, List.setIfInBounds_toArray, List.set_cons_zero, List.set_cons_succ, List.getElem_toArray, List.getElem_cons_zero, List.getElem_cons_succ]
                  have hv1 : 0 ≤ IntKind.i64.wrap (z.tmod 1000000001) ∧ IntKind.i64.wrap (z.tmod 1000000001) ≤ 1000000000 := by rw [IntKind.wrap_i64, Int.tmod_eq_emod_of_nonneg hzz.1]; omega
                  have hv2 : 0 ≤ IntKind.i64.wrap ((IntKind.u32.wrap (z.tdiv 2)).tmod 1000000001) ∧ IntKind.i64.wrap ((IntKind.u32.wrap (z.tdiv 2)).tmod 1000000001) ≤ 1000000000 := by rw [IntKind.wrap_i64, Int.tdiv_eq_ediv_of_nonneg hzz.1, IntKind.wrap_u32, Int.tmod_eq_emod_of_nonneg (by omega)]; omega
                  obtain ⟨z1, hz1⟩ : ∃ z1, z1 = IntKind.i64.wrap (z.tmod 1000000001) := ⟨_, rfl⟩
                  obtain ⟨z2, hz2⟩ : ∃ z2, z2 = IntKind.i64.wrap ((IntKind.u32.wrap (z.tdiv 2)).tmod 1000000001) := ⟨_, rfl⟩
                  rw [← hz1] at hv1 ⊢
                  rw [← hz2] at hv2 ⊢
                  clear hz1 hz2 k7 k8
                  refine wpAnyH_take (i := 19) (v := ?_) rfl (by kernel_rfl) (by kernel_rfl) (by kernel_rfl) (fun _ _ _ h => h) (Or.inl ⟨by rfl, ?_⟩) hHeld ?_
                  rotate_left
                  · intro Wz hWz; clear hWz; go_simp; (try with_reducible rfl)
                  try simp only [Act.put, List.setIfInBounds_toArray, List.set_cons_zero, List.set_cons_succ, List.getElem_toArray, List.getElem_cons_zero, List.getElem_cons_succ]
                  obtain ⟨v, hv⟩ : ∃ v, v = wc.drew := ⟨_, rfl⟩
                  have k2 : v.cell? ⟨VK c, d, none⟩ = some (.int .i64 (LK c d)) := by rw [hv]; exact hk2
                  have k3 : v.frozen? ⟨VK c, d, none⟩ = false := by rw [hv]; exact hk3
                  rw [← hv] at HG0 HW0 hHeld ⊢
                  have hkb := Lib.hid (HG0.out.apartK hcN HKA.out HTA.out)
                  have HG1 := Lib.hid (HG0.out.cost_ hcN hdN hcd hv1)
                  have HW1 := Lib.hid (HW0.out.setCell (p := ⟨VK c, d, none⟩) (Nat.le_trans HBB.out (HG0.out.fr.vk_ge hcN)) (.int .i64 z1))
                  clear hv hk2 hk3
                  refine wpAnyH_ready (rs := [20]) (by kernel_rfl) (by simp) ?_
                  refine AllReadyH.cons rfl (fun K hK => ?_) AllReadyH.nil
                  go_simp
                  refine hK.out _ _ ?_ (fun hHeld => ?_)
                  · exact ⟨(heap_setCell_other _ _ _ _ hkb.out.1).trans hHeld.1, (heap_setCell_other _ _ _ _ hkb.out.2.1).trans hHeld.2.1, (heap_setCell_other _ _ _ _ hkb.out.2.2).trans hHeld.2.2⟩
                  clear hK K k2 k3
                  try simp only [Act.put, List.setIfInBounds_toArray, List.set_cons_zero, List.set_cons_succ, List.getElem_toArray, List.getElem_cons_zero, List.getElem_cons_succ]
                  obtain ⟨v2, hv⟩ : ∃ v2, v2 = v.setCell ⟨VK c, d, none⟩ (.int .i64 z1) := ⟨_, rfl⟩
                  rw [← hv] at HG1 HW1 hHeld ⊢
                  clear hv hkb
                  refine wpAnyH_take (i := 21) (v := ?_) rfl (by kernel_rfl) (by kernel_rfl) (by kernel_rfl) (fun _ _ _ h => h) (Or.inl ⟨by rfl, ?_⟩) hHeld ?_
                  rotate_left
                  · intro Wz hWz; clear hWz; go_simp; (try with_reducible rfl)
                  try simp only [Act.put, List.setIfInBounds_toArray, List.set_cons_zero, List.set_cons_succ, List.getElem_toArray, List.getElem_cons_zero, List.getElem_cons_succ]
                  obtain ⟨_, -, -, k2, k3⟩ := HG1.out.fr.own.time.cell_ (i := d) (k := c) hdN hcN
                  have hkb := Lib.hid (HG1.out.apartT hdN HKA.out HTA.out)
                  have HG2 := Lib.hid (HG1.out.time_ hdN hcN (fun e => hcd e.symm) hv2)
                  have HW2 := Lib.hid (HW1.out.setCell (p := ⟨VT d, c, none⟩) (Nat.le_trans HBB.out (HG1.out.fr.vt_geB hdN)) (.int .i64 z2))
                  refine wpAnyH_ready (rs := [22]) (by kernel_rfl) (by simp) ?_
                  refine AllReadyH.cons rfl (fun K hK => ?_) AllReadyH.nil
                  go_simp
                  refine hK.out _ _ ?_ (fun hHeld => ?_)
                  · exact ⟨(heap_setCell_other _ _ _ _ hkb.out.1).trans hHeld.1, (heap_setCell_other _ _ _ _ hkb.out.2.1).trans hHeld.2.1, (heap_setCell_other _ _ _ _ hkb.out.2.2).trans hHeld.2.2⟩
                  clear hK K k2 k3
                  try simp only [Act.put, List.setIfInBounds_toArray, List.set_cons_zero, List.set_cons_succ, List.getElem_toArray, List.getElem_cons_zero, List.getElem_cons_succ]
                  refine wpAnyH_done (by kernel_rfl) ?_ _
                  clear hHeld
                  go_wp2_with fail
                  go_meet
                  exact ⟨_, _, _, _, _, _, _, _, HG2.out, HBB.out, HW2.out, HXL.out⟩
              case rest =>
                have HK := Lib.hid hcut
                clear hcut HG HW HBB HXL hd3 hd4 hc1 hc2
                obtain ⟨B2, C2, D2, VK2, VT2, LK2, LT2, x2, hbig, hB, hBw, hxl⟩ := HK.out
                have hl2 : 1 ≤ x2.sats.length ∧ x2.sats.length ≤ 3 := by rw [hxl]; omega
                obtain ⟨j, hj, hjN⟩ := mod_natB (k : Int) x2.sats.length (by omega) (by omega)
                have hj1 := hj.1
                have hj2 := hj.2
                clear hj
                obtain ⟨p, hp⟩ : ∃ p, x2.sats[j]? = some p := ⟨_, List.getElem?_eq_getElem hjN⟩
                obtain ⟨zz, hzz1⟩ : ∃ zz, z % 1000000001 = zz := ⟨_, rfl⟩
                have hzb : 0 ≤ zz ∧ zz ≤ 1000000000 := by omega
                have hzz2 : z.tmod 1000000001 = zz := by rw [Int.tmod_eq_emod_of_nonneg hzz.1]; exact hzz1
                have hzw : IntKind.i64.wrap zz = zz := by rw [IntKind.wrap_i64]; omega
                have hzw2 : wrap64 zz = zz := by unfold wrap64; omega
                obtain ⟨g, hga, hc0, hf0, hnew⟩ := hbig.sat_ hp (z := zz) hzb
                obtain ⟨-, -, -, -, -, k5, -, -, -⟩ := hbig.fr.fin.cells
                rw [hga] at k5
                have hgB : B2 ≤ g := by
                  have hs := hbig.fr.own.sats
                  rw [hga] at hs
                  exact (World.ownsRow.lt hs g rfl).1
                have HNEW := Lib.hid hnew
                have HB2 := Lib.hid (hBw.setCell (p := ⟨g, j * 2, none⟩) (Nat.le_trans hB hgB) (.int .i64 zz))
                have HBB := Lib.hid hB
                have HXL : Hid ((x2.sats.set j (zz, p.2)).length = m.sats.length) := Lib.hid (by rw [List.length_set]; exact hxl)
                clear hbig hB hBw hxl hnew hp hga hgB hzz
                go_step
                go_upto_region 11 with fail
                go_region
                all_goals
                  go_wp2_with fail
                  go_roundw
                  case rel => exact ⟨k + 1, by go_num, by omega, Lib.hid ⟨_, _, _, _, _, _, _, _, HNEW.out.later (Below.refl _ _).drew, HBB.out, HB2.out.drew, HXL.out⟩⟩
                  case measure => simp [intOf]; omega
        · have hd : decide ((k : Int) < (len : Int)) = false := by simp; omega
          go_wp2_with fail
          go_meet
          exact HK.out
    case rest =>
      obtain ⟨B, C, D, VK, VT, LK, LT, x, hbig, hB, hBw, hxl⟩ := hcut
      have hmay := hbig.may
      have HMAY := Lib.hid hmay
      have HF := Lib.hid hbig.fr.fin
      have HB3 := Lib.hid hBw
      have HERR := Lib.hid (may_err hmay)
      obtain ⟨tx, htx⟩ : ∃ tx : ByteArray, tx = ⟨(showB x).toArray⟩ := ⟨_, rfl⟩
      have hst := show_str htx
      have HTT : Hid (∀ (W0 : World), Tab W0 → IsIns W0.heap.size W0 A2 x → Calls Tryd.prog 12 #[.agg (insC A2 x)] W0 fun e w' => e = .returned (.string tx) ∧ Below W0.heap.size W0 w') := Lib.hid (fun W0 h1 h2 => by rw [htx]; exact HH.out.text A2 x W0 h1 h2 HMAY.out)
      have HP2 : Hid (∀ W0, Calls Tryd.prog 15 #[.string tx] W0 (Ans x 0 0 W0)) := Lib.hid (fun W0 => by
        have h := parse_ins tx W0 (by rw [hst.2]; have := show_len hmay; omega)
        rw [hst.1] at h
        obtain ⟨r1, r2, r3⟩ := show_read hmay
        unfold ParseP at h
        rw [r1, r2, r3] at h
        exact h)
      have HSR := Lib.hid (sameI_refl x)
      obtain ⟨x0, x1, x2, x3, x4, x5, x6, x7, x8⟩ := HF.out.cells
      clear hbig hB hBw hxl hmay htx hst HI3
      unfold insC at *
      go_wp2_with (first
        | (go_at_call 12; refine (HTT.out _ (HT.out.later HB3.out) HF.out.is_).mono ?_; rintro e w4 ⟨rfl, hb4⟩; have HF4 := Lib.hid (HF.out.later hb4); have HB4 := Lib.hid (HB3.out.trans (hb4.mono HB3.out.size)); clear hb4))
      refine (HP2.out _).mono ?_
      rintro e w5 ⟨A5, rfl, hi5, hb5⟩
      have hb6 := (Below.refl w5.heap.size w5).alloc (Nat.le_refl _) (.cells (insC A5 x) 38)
      have hs6 : w5.heap.size ≤ (w5.alloc (.cells (insC A5 x) 38)).heap.size := by simp
      have HJ6 := Lib.hid ((hi5.later hb6).mono hs6)
      have HF6 := Lib.hid (HF4.out.later (hb5.trans (hb6.mono hb5.size)))
      have HB6 := Lib.hid (HB4.out.trans ((hb5.trans (hb6.mono hb5.size)).mono HB4.out.size))
      have HY6 := Lib.hid (heap_alloc_new w5 (.cells (insC A5 x) 38))
      have hy6 := HY6.out
      unfold insC at hy6
      obtain ⟨y0, y1, y2, y3, y4, y5, y6, y7, y8, _⟩ := cells9 hy6
      obtain ⟨v0, v1, v2, v3, v4, v5, v6, v7, v8⟩ := HF6.out.cells
      clear HP2 hi5 hb5 hb6 hs6 hy6 x0 x1 x2 x3 x4 x5 x6 x7 x8 HF4 HF HB3 HB4
      unfold insC at *
      go_wp2_with fail
      refine (check_any A2 x _ HF6.out.is_ HF6.out.light).mono ?_
      rintro e w7 ⟨rfl, hb7⟩
      rw [HERR.out]
      have HF7 := Lib.hid (HF6.out.later hb7)
      have HJ7 := Lib.hid ((HJ6.out.later hb7).mono hb7.size)
      have HB7 := Lib.hid (HB6.out.trans (hb7.mono HB6.out.size))
      have hy7 := (hb7.block _ (Array.getElem?_eq_some_iff.1 HY6.out).1).trans HY6.out
      obtain ⟨z0, z1, z2, z3, z4, z5, z6, z7, z8, _⟩ := cells9 hy7
      obtain ⟨q0, q1, q2, q3, q4, q5, q6, q7, q8⟩ := HF7.out.cells
      have HSm := Lib.hid (lawSame_any A2 A5 x x _ HF7.out.is_ HJ7.out HF7.out.light)
      clear hb7 hy7 HJ6 HF6 HB6 y0 y1 y2 y3 y4 y5 y6 y7 y8 v0 v1 v2 v3 v4 v5 v6 v7 v8
      unfold insC at *
      go_wp2_with fail
      refine HSm.out.mono ?_
      rintro e w8 ⟨rfl, hb8⟩
      have HB8 := Lib.hid (HB7.out.trans (hb8.mono HB7.out.size))
      rw [HSR.out]
      clear hb8 HSm HJ7 HF7 HB7 z0 z1 z2 z3 z4 z5 z6 z7 z8 q0 q1 q2 q3 q4 q5 q6 q7 q8
      go_wp2_with fail
      go_ret
      exact ⟨rfl, HB8.out⟩
end Go.Proofs.YtnnddmojcaicbaaDoor
