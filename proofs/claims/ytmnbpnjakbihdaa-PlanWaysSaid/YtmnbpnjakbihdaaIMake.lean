/- The law's maker of instances. -/
import Derived.Test.YtmnbpnjakbihdaaIMakeW
import Derived.Deep.CutRange
import Derived.Deep.RegionHeld3
namespace Go.Proofs.Ytmnbpnjakbihdaa
open Go.RowKit

variable {w wr w2 w4 : World} {A : SmA} {s : Sm} {sv cv : Value} {ns nc g4 cap : Nat} {l1 : List (Int × Int)} {l2 : List Pi} {x : Int × Int} {c : Pi}
theorem infoSatM : (Try.prog.info? 80).map (fun i => (i.zero, i.size, i.bytes)) = some (some (.agg #[.int .i64 0, .int .i64 0]), 2, 16) := by kernel_rfl
theorem infoCusM : (Try.prog.info? 68).map (fun i => (i.zero, i.size, i.bytes)) = some (some (.agg #[.int .i64 0, .int .i64 0, .int .i64 0, .int .i64 0]), 4, 32) := by kernel_rfl
theorem newsS_at (w : World) (x : Int × Int) (T : TypeId) (z : Nat) (hz : w.heap.size = z) : ∀ (j : Nat) (u : Value), (encS x)[j]? = some u → (w.alloc (.cells #[.int .i64 x.1, .int .i64 x.2] T)).cell? ((⟨z, 0, none⟩ : Addr).add j) = some u := by
  subst hz
  intro j u hj
  rw [Addr.add_lit]
  match j, hj with
  | 0, hj => simp [encS] at hj; subst hj; simp
  | 1, hj => simp [encS] at hj; subst hj; simp
theorem newsC_at (w : World) (x : Pi) (T : TypeId) (z : Nat) (hz : w.heap.size = z) : ∀ (j : Nat) (u : Value), (encP x)[j]? = some u → (w.alloc (.cells #[.int .i64 x.1, .int .i64 x.2.1, .int .i64 x.2.2.1, .int .i64 x.2.2.2] T)).cell? ((⟨z, 0, none⟩ : Addr).add j) = some u := by
  subst hz
  intro j u hj
  rw [Addr.add_lit]
  match j, hj with
  | 0, hj => simp [encP] at hj; subst hj; simp
  | 1, hj => simp [encP] at hj; subst hj; simp
  | 2, hj => simp [encP] at hj; subst hj; simp
  | 3, hj => simp [encP] at hj; subst hj; simp
theorem oneS (x : Int × Int) : ∀ u ∈ encS x, u.oneCell' = true := by intro u hu; simp [encS] at hu; rcases hu with rfl | rfl <;> rfl
theorem oneC (x : Pi) : ∀ u ∈ encP x, u.oneCell' = true := by intro u hu; simp [encP] at hu; rcases hu with rfl | rfl | rfl | rfl <;> rfl
theorem wide_mul {wd z : Int} {b : Int} (h : 1 ≤ wd ∧ wd ≤ 9) (hz : 0 ≤ z) (hb : z ≤ b) : 0 ≤ wd * z ∧ wd * z ≤ 9 * b :=
  ⟨Int.mul_nonneg (by omega) hz, Int.le_trans (Int.mul_le_mul_of_nonneg_right h.2 hz) (Int.mul_le_mul_of_nonneg_left hb (by omega))⟩
set_option maxRecDepth 100000 in
theorem nodes_law (v0 v1 v2 v3 v4 : Int) (sa : Option Addr) (ns sc : Nat) (ca : Option Addr) (nc cc : Nat) (v7 v8 : Option Addr) (n7 c7 n8 c8 : Nat) (w : World) (h : ns + nc ≤ 1000) :
    Calls Try.prog 18 #[.agg #[.int .i64 v0, .int .i64 v1, .int .i64 v2, .int .i64 v3, .int .i64 v4, .slice sa ns sc, .slice ca nc cc, .slice v7 n7 c7, .slice v8 n8 c8]] w fun e w' => e = .returned (.int .i64 ((1 + ns + nc : Nat) : Int)) ∧ Below w.heap.size w w' := by
  have HB := Lib.hid ((Below.refl w.heap.size w).alloc (Nat.le_refl _) (.cells #[.int .i64 v0, .int .i64 v1, .int .i64 v2, .int .i64 v3, .int .i64 v4, .slice sa ns sc, .slice ca nc cc, .slice v7 n7 c7, .slice v8 n8 c8] 37))
  go_enter Try.func18, Try.ntmps18
  go_wp2_with fail
  go_ret
  refine ⟨?_, HB.out⟩
  have e : (1 + (ns : Int) + (nc : Int)) = ((1 + ns + nc : Nat) : Int) := by omega
  rw [← e]
  rfl
theorem satsOf_len (s : Sm) : (satsOf s).length ≤ 3 := by
  unfold satsOf
  split
  · simp
  · rw [satsTo_len (Nat.le_refl _)]; omega
theorem cusOf_len (s : Sm) : (cusOf s).length ≤ 6 := by
  unfold cusOf
  split
  · simp
  · rw [cusTo_len (Nat.le_refl _)]; omega
set_option maxHeartbeats 8000000 in
set_option maxRecDepth 100000 in
theorem make_any (A : SmA) (s : Sm) (w : World) (hs : IsSm w.heap.size w A s) :
    Calls Try.prog 10 #[.agg (smC A s)] w fun e w' => (∃ A2, e = .returned (.agg (insC A2 (makeI s))) ∧ ∃ C D VK VT, OwnIns (w.heap.size + 3) w' A2 (makeI s) (nodesOf s) C D VK VT (sqE s.cost (nodesOf s)) (sqE s.time (nodesOf s))) ∧ Below w.heap.size w w' := by
  obtain ⟨i0, hi0, hz0, hz1, hz2⟩ := info_parts infoSatM
  obtain ⟨i1, hi1, hy0, hy1, hy2⟩ := info_parts infoCusM
  have HS := Lib.hid hs
  have hok := hs.ok
  have hsl := hs.sl
  have hwl := hs.wl
  obtain ⟨⟨e1, e2⟩, ⟨t1, t2⟩, ⟨tr1, tr2⟩, ⟨b1, b2⟩, ⟨br1, br2⟩⟩ := hok
  have hwd := s.wide_le
  unfold smC at *
  have HB0 := Lib.hid (((Below.refl w.heap.size w).alloc (Nat.le_refl _) (.cells (smC A s) 26)).alloc (by simp) (.cells #[.int .i64 0, .int .i64 0, .int .i64 0, .int .i64 0, .int .i64 0, .slice none 0 0, .slice none 0 0, .slice none 0 0, .slice none 0 0] 37))
  have hsz1 : (w.alloc (.cells (smC A s) 26)).heap.size = w.heap.size + 1 := by simp
  have HSM : Hid (((w.alloc (.cells (smC A s) 26)).alloc (.cells #[.int .i64 0, .int .i64 0, .int .i64 0, .int .i64 0, .int .i64 0, .slice none 0 0, .slice none 0 0, .slice none 0 0, .slice none 0 0] 37)).heap[w.heap.size]? = some (.cells (smC A s) 26 (0, 0))) := Lib.hid (heap_alloc2_old _ _ _)
  have HRS : Hid (((w.alloc (.cells (smC A s) 26)).alloc (.cells #[.int .i64 0, .int .i64 0, .int .i64 0, .int .i64 0, .int .i64 0, .slice none 0 0, .slice none 0 0, .slice none 0 0, .slice none 0 0] 37)).heap[w.heap.size + 1]? = some (.cells #[.int .i64 0, .int .i64 0, .int .i64 0, .int .i64 0, .int .i64 0, .slice none 0 0, .slice none 0 0, .slice none 0 0, .slice none 0 0] 37 (0, 0))) := Lib.hid (heap_alloc2_new _ _ _)
  clear hs hsz1
  unfold smC at *
  obtain ⟨lb, hlb⟩ : ∃ b, s.loose = b := ⟨_, rfl⟩
  have HLB := Lib.hid hlb
  clear hlb
  have c10 : ((w.alloc (.cells #[.int .u8 s.e, .int .u8 s.t, .int .u8 s.tr, .int .u8 s.b, .int .u8 s.br, .slice A.sa s.sats.length A.sc, .slice A.wa s.whos.length A.wc, .slice A.ca A.cn A.cc, .slice A.ta A.tn A.tc, .bool s.tight, .bool s.loose] 26)).alloc (.cells #[.int .i64 0, .int .i64 0, .int .i64 0, .int .i64 0, .int .i64 0, .slice none 0 0, .slice none 0 0, .slice none 0 0, .slice none 0 0] 37)).cell? ⟨w.heap.size, 10, none⟩ = some (.bool lb) := by rw [← HLB.out]; simp [World.cell?, HSM.out]
  go_enter Try.func10, Try.ntmps10
  go_upto_if 12 with fail
  have hszW : ((w.alloc (.cells #[.int .u8 s.e, .int .u8 s.t, .int .u8 s.tr, .int .u8 s.b, .int .u8 s.br, .slice A.sa s.sats.length A.sc, .slice A.wa s.whos.length A.wc, .slice A.ca A.cn A.cc, .slice A.ta A.tn A.tc, .bool s.tight, .bool s.loose] 26)).alloc (.cells #[.int .i64 0, .int .i64 0, .int .i64 0, .int .i64 0, .int .i64 0, .slice none 0 0, .slice none 0 0, .slice none 0 0, .slice none 0 0] 37)).heap.size = w.heap.size + 2 := by simp
  obtain ⟨W1, hW1⟩ : ∃ W1, (w.alloc (.cells #[.int .u8 s.e, .int .u8 s.t, .int .u8 s.tr, .int .u8 s.b, .int .u8 s.br, .slice A.sa s.sats.length A.sc, .slice A.wa s.whos.length A.wc, .slice A.ca A.cn A.cc, .slice A.ta A.tn A.tc, .bool s.tight, .bool s.loose] 26)).alloc (.cells #[.int .i64 0, .int .i64 0, .int .i64 0, .int .i64 0, .int .i64 0, .slice none 0 0, .slice none 0 0, .slice none 0 0, .slice none 0 0] 37) = W1 := ⟨_, rfl⟩
  rw [hW1] at HB0 HSM HRS hszW ⊢
  clear hW1 c10
  go_cut [3] from 12 to 12 (fun v wx => v = .int .i64 s.wide ∧ wx = W1)
  case first =>
    cases lb with
    | true =>
      have HX : Hid (s.wide = 9) := Lib.hid (by unfold Sm.wide; rw [if_pos HLB.out])
      go_wp2_with fail
      go_meet
      exact ⟨by rw [HX.out], rfl⟩
    | false =>
      have HX : Hid (s.wide = 1) := Lib.hid (by unfold Sm.wide; rw [HLB.out]; rfl)
      go_wp2_with fail
      go_meet
      exact ⟨by rw [HX.out], rfl⟩
  case rest =>
    obtain ⟨rfl, rfl⟩ := hcut
    have c0 : wc.cell? ⟨w.heap.size, 0, none⟩ = some (.int .u8 s.e) := by simp [World.cell?, HSM.out]
    have c1 : wc.cell? ⟨w.heap.size, 1, none⟩ = some (.int .u8 s.t) := by simp [World.cell?, HSM.out]
    have c2 : wc.cell? ⟨w.heap.size, 2, none⟩ = some (.int .u8 s.tr) := by simp [World.cell?, HSM.out]
    have c3 : wc.cell? ⟨w.heap.size, 3, none⟩ = some (.int .u8 s.b) := by simp [World.cell?, HSM.out]
    have c4 : wc.cell? ⟨w.heap.size, 4, none⟩ = some (.int .u8 s.br) := by simp [World.cell?, HSM.out]
    obtain ⟨m1, m2⟩ := wide_mul hwd e1 e2
    rw [Int.mul_comm] at m1 m2
    obtain ⟨m3, m4⟩ := wide_mul (z := s.tr % 40) (b := 39) hwd (by omega) (by omega)
    obtain ⟨m5, m6⟩ := wide_mul (z := s.br % 20) (b := 19) hwd (by omega) (by omega)
    have w1 : IntKind.i64.wrap (s.e * s.wide) = s.e * s.wide := by rw [IntKind.wrap_i64]; omega
    have w2 : IntKind.i64.wrap (s.wide * (s.tr % 40)) = s.wide * (s.tr % 40) := by rw [IntKind.wrap_i64]; omega
    have w3 : IntKind.i64.wrap (s.wide * (s.br % 20)) = s.wide * (s.br % 20) := by rw [IntKind.wrap_i64]; omega
    have HM0 : Hid (MkW w (wc.alloc (.cells #[.int .i64 (40 + s.e * s.wide), .int .i64 (1 + s.t % 4), .int .i64 (5 + s.wide * (s.tr % 40)), .int .i64 (1 + s.b % 6), .int .i64 (3 + s.wide * (s.br % 20)), .slice none 0 0, .slice none 0 0, .slice none 0 0, .slice none 0 0] 37)) A s (.slice none 0 0) (.slice none 0 0) 0 0 (satsTo s 0) (cusTo s 0)) := Lib.hid (by
      have hA := (Below.refl wc.heap.size wc).alloc (Nat.le_refl _) (.cells #[.int .i64 (40 + s.e * s.wide), .int .i64 (1 + s.t % 4), .int .i64 (5 + s.wide * (s.tr % 40)), .int .i64 (1 + s.b % 6), .int .i64 (3 + s.wide * (s.br % 20)), .slice none 0 0, .slice none 0 0, .slice none 0 0, .slice none 0 0] 37)
      have h1 : satsTo s 0 = [] := by simp [satsTo]
      have h2 : cusTo s 0 = [] := by simp [cusTo]
      rw [h1, h2]
      exact ⟨HB0.out.trans (hA.mono HB0.out.size), (hA.block _ (by omega)).trans HSM.out, (hA.block _ (by omega)).trans HRS.out, by rw [← hszW]; exact heap_alloc_new _ _, nil_owned, rfl, nil_owned, rfl, fun g h => by cases h⟩)
    have hc5 := HM0.out.small.1
    clear HB0 HSM HRS
    go_wp2_with fail
    clear c0 c1 c2 c3 c4 hc5 m1 m2 m3 m4 m5 m6 w1 w2 w3 e1 e2 t1 t2 tr1 tr2 b1 b2 br1 br2
    obtain ⟨w0, hw0⟩ : ∃ w0, wc.alloc (.cells #[.int .i64 (40 + s.e * s.wide), .int .i64 (1 + s.t % 4), .int .i64 (5 + s.wide * (s.tr % 40)), .int .i64 (1 + s.b % 6), .int .i64 (3 + s.wide * (s.br % 20)), .slice none 0 0, .slice none 0 0, .slice none 0 0, .slice none 0 0] 37) = w0 := ⟨_, rfl⟩
    rw [hw0] at HM0
    rw [hw0]
    clear hw0 hszW
    obtain ⟨sa, hsa⟩ : ∃ a, A.sa = a := ⟨_, rfl⟩
    have HSU : Hid (IsSatU w.heap.size w sa s.sats.length s.sats) := Lib.hid (by rw [← hsa]; exact HS.out.sats)
    rw [hsa]
    go_loopw [49] (fun iv wr => ∃ (k : Nat) (sv : Value), iv = .int .i64 (k : Int) ∧ k ≤ s.sats.length ∧ Hid (MkW w wr A s sv (.slice none 0 0) (satsTo s k).length 0 (satsTo s k) (cusTo s 0))) (fun iv _ => s.sats.length - (intOf iv).toNat)
    case atStart => exact ⟨0, _, rfl, Nat.zero_le _, HM0⟩
    case round =>
      obtain ⟨k, sv, rfl, hk, HM⟩ := hrel
      clear HM0
      by_cases hlt : k < s.sats.length
      · obtain ⟨b, off, y, rfl, hy, ⟨⟨y1, y2⟩, y3, y4⟩, q0, q1⟩ := (HSU.out.later HM.out.below).at_ hlt
        have HYY := Lib.hid hy
        obtain ⟨p1, p2⟩ := y
        simp only at q0 q1 y1 y2 y3 y4
        clear hy
        obtain ⟨va, vc, hv⟩ := owns_shape HM.out.sats
        subst hv
        have HM1 := Lib.hid (HM.out.later ((Below.refl wr.heap.size wr).alloc (Nat.le_refl _) (.cells #[.int .u8 p1, .int .u8 p2] 78)))
        have hnl := satsTo_len (s := s) hk
        obtain ⟨c5, c6, cf⟩ := HM1.out.cells
        by_cases h3 : k < 3
        · have hn3 : (satsTo s k).length < 3 := by omega
          clear hnl
          have hd3 : decide (((satsTo s k).length : Int) < 3) = true := by simp; omega
          obtain ⟨m1, m2⟩ := wide_mul (z := p1 % 40) (b := 39) hwd (by omega) (by omega)
          have w1 : IntKind.i64.wrap (s.wide * (p1 % 40)) = s.wide * (p1 % 40) := by rw [IntKind.wrap_i64]; omega
          have HN := Lib.hid (satsTo_on HYY.out h3)
          have HM5 := Lib.hid (HM1.out.later ((Below.refl _ _).alloc (Nat.le_refl _) (.cells #[.int .i64 (4 + s.wide * (p1 % 40)), .int .i64 (p2 % 12)] 80)))
          have HBS : Hid (w.heap.size + 3 ≤ ((wr.alloc (.cells #[.int .u8 p1, .int .u8 p2] 78)).alloc (.cells #[.int .i64 (4 + s.wide * (p1 % 40)), .int .i64 (p2 % 12)] 80)).heap.size) := Lib.hid HM5.out.lt
          go_wp2_with (at_builtin; refine wpList_append_fresh rfl (.tmp 58) (.tmp 71) 33 rfl (w.heap.size + 3) 80 i0 _ 2 16 Try.underlying33 hi0 hz0 hz1 hz2 (by decide) (.slice va (satsTo s k).length vc) (satsTo s k).length (flatS (satsTo s k)) rfl HM5.out.sats ⟨_, 0, none⟩ 1 (encS (satOf s.wide (p1, p2))) rfl rfl (newsS_at _ (satOf s.wide (p1, p2)) _ _ (by simp)) (oneS _) (by unfold maxLen; omega) (by omega) HBS.out ?_; intro g4 cap4 w6 hown hgrow hfr; obtain ⟨hP, k5, kf⟩ := HM5.out.pushS (x := satOf s.wide (p1, p2)) hown hgrow hfr; have HP := Lib.hid hP; clear hown hgrow hfr hP)
          have HLN : Hid ((satsTo s (k + 1)).length = (satsTo s k).length + 1) := Lib.hid (by rw [HN.out]; simp)
          go_roundw
          case rel => exact ⟨k + 1, _, by go_num, by omega, Lib.hid (by rw [HLN.out, HN.out]; exact HP.out)⟩
          case measure => simp [intOf]; omega
        · have hd3 : decide (((satsTo s k).length : Int) < 3) = false := by simp; omega
          clear hnl
          have HN := Lib.hid (satsTo_off (s := s) (k := k) (by omega))
          go_wp2_with fail
          go_roundw
          case rel => exact ⟨k + 1, _, by go_num, by omega, Lib.hid (by rw [HN.out]; exact HM1.out)⟩
          case measure => simp [intOf]; omega
      · obtain rfl : k = s.sats.length := by omega
        obtain ⟨va, vc, hv⟩ := owns_shape HM.out.sats
        subst hv
        obtain ⟨c5, c6, cf⟩ := HM.out.cells
        have hns := satsTo_len (s := s) (Nat.le_refl s.sats.length)
        have hn3 : (satsTo s s.sats.length).length ≤ 3 := by omega
        clear hns
        go_upto_if 78 with fail
        go_cut [] from 78 to 81 (fun wx => ∃ sv, MkW w wx A s sv (.slice none 0 0) (satsOf s).length 0 (satsOf s) (cusTo s 0))
        case first =>
          by_cases he : satsTo s s.sats.length = []
          · have HE : Hid (satsOf s = [(60, 2)]) := Lib.hid (by unfold satsOf; rw [if_pos he])
            have hel : (((satsTo s s.sats.length).length : Int) == 0) = true := by rw [he]; rfl
            have HP := Lib.hid (HM.out.oneS (60, 2))
            obtain ⟨d5, _, df⟩ := (HM.out.later ((Below.refl wr.heap.size wr).alloc (Nat.le_refl _) (.cells #[.int .i64 60, .int .i64 2] 80))).cells
            clear he
            go_wp2_with fail
            go_meet
            exact ⟨_, by rw [HE.out]; exact HP.out⟩
          · have HE : Hid (satsOf s = satsTo s s.sats.length) := Lib.hid (by unfold satsOf; rw [if_neg he])
            have hel : (((satsTo s s.sats.length).length : Int) == 0) = false := by
              have : (satsTo s s.sats.length).length ≠ 0 := fun h => he (List.eq_nil_of_length_eq_zero h)
              simp; omega
            clear he
            go_wp2_with fail
            go_meet
            exact ⟨_, by rw [HE.out]; exact HM.out⟩
        case rest =>
          obtain ⟨sv, hM⟩ := hcut
          have HM2 := Lib.hid hM
          clear hM HM c5 c6 cf
          obtain ⟨_, q6, _, _, _, _⟩ := HM2.out.small
          have HM3 : Hid (MkW w wc A s sv (.slice none 0 0) (satsOf s).length (cusTo s 0).length (satsOf s) (cusTo s 0)) := Lib.hid (by
            have e : (cusTo s 0).length = 0 := by simp [cusTo]
            rw [e]
            exact HM2.out)
          obtain ⟨wa, hwa⟩ : ∃ a, A.wa = a := ⟨_, rfl⟩
          have HWU : Hid (IsWhoU w.heap.size w wa s.whos.length s.whos) := Lib.hid (by rw [← hwa]; exact HS.out.whos)
          rw [hwa] at q6 ⊢
          obtain ⟨tb, htb⟩ : ∃ b, s.tight = b := ⟨_, rfl⟩
          have HTB := Lib.hid htb
          clear htb HM2 HSU hsa
          go_wp2_with fail
          clear q6
          go_loopw [85] (fun iv wr => ∃ (k : Nat) (cv : Value), iv = .int .i64 (k : Int) ∧ k ≤ s.whos.length ∧ Hid (MkW w wr A s sv cv (satsOf s).length (cusTo s k).length (satsOf s) (cusTo s k))) (fun iv _ => s.whos.length - (intOf iv).toNat)
          case atStart => exact ⟨0, _, rfl, Nat.zero_le _, HM3⟩
          case round =>
            obtain ⟨k, cv, rfl, hk, HM⟩ := hrel
            clear HM3
            by_cases hlt : k < s.whos.length
            · obtain ⟨b, off, y, rfl, hy, ⟨⟨y1, y2⟩, ⟨y3, y4⟩, ⟨y5, y6⟩, y7, y8⟩, q0, q1, q2, q3⟩ := (HWU.out.later HM.out.below).at_ hlt
              have HYY := Lib.hid hy
              obtain ⟨p1, p2, p3, p4⟩ := y
              simp only at q0 q1 q2 q3 y1 y2 y3 y4 y5 y6 y7 y8
              clear hy
              obtain ⟨va, vc, hv⟩ := owns_shape HM.out.cus
              subst hv
              have HM1 := Lib.hid (HM.out.later ((Below.refl wr.heap.size wr).alloc (Nat.le_refl _) (.cells #[.int .u8 p1, .int .u8 p2, .int .u8 p3, .int .u8 p4] 82)))
              have hnl := cusTo_len (s := s) hk
              obtain ⟨c5, c6, cf⟩ := HM1.out.cells
              by_cases h3 : k < 6
              · have hn3 : (cusTo s k).length < 6 := by omega
                clear hnl
                have hd3 : decide (((cusTo s k).length : Int) < 6) = true := by simp; omega
                obtain ⟨m1, m2⟩ := wide_mul (z := p3) (b := 255) hwd y5 y6
                have w1 : IntKind.i64.wrap (s.wide * p3) = s.wide * p3 := by rw [IntKind.wrap_i64]; omega
                have HN := Lib.hid (cusTo_on HYY.out h3)
                have q9 := HM1.out.small.2.2.2.2.1
                rw [HTB.out] at q9
                go_upto_if 99 with fail
                go_cut [9] from 99 to 105 (fun v wx => v = .int .i64 (loadOf tb p1) ∧ wx = wr.alloc (.cells #[.int .u8 p1, .int .u8 p2, .int .u8 p3, .int .u8 p4] 82))
                case first =>
                  cases tb with
                  | true => go_wp2_with fail; go_meet; exact ⟨rfl, rfl⟩
                  | false => go_wp2_with fail; go_meet; exact ⟨rfl, rfl⟩
                case rest =>
                  obtain ⟨hcv, hcw⟩ := hcut
                  subst hcv hcw
                  have hld : 1 ≤ loadOf tb p1 ∧ loadOf tb p1 ≤ 14 := by unfold loadOf; split <;> omega
                  have HWO : Hid (whoOf s.wide s.tight (p1, p2, p3, p4) = (loadOf tb p1, p2 % 50, p2 % 50 + s.wide * p3, p4 % 8)) := Lib.hid (by unfold whoOf; rw [HTB.out])
                  rw [HWO.out] at HN
                  generalize loadOf tb p1 = ld at *
                  have HM5 := Lib.hid (HM1.out.later ((Below.refl _ _).alloc (Nat.le_refl _) (.cells #[.int .i64 ld, .int .i64 (p2 % 50), .int .i64 (p2 % 50 + s.wide * p3), .int .i64 (p4 % 8)] 68)))
                  have HBS : Hid (w.heap.size + 3 ≤ ((wr.alloc (.cells #[.int .u8 p1, .int .u8 p2, .int .u8 p3, .int .u8 p4] 82)).alloc (.cells #[.int .i64 ld, .int .i64 (p2 % 50), .int .i64 (p2 % 50 + s.wide * p3), .int .i64 (p4 % 8)] 68)).heap.size) := Lib.hid HM5.out.lt
                  go_wp2_with (at_builtin; refine wpList_append_fresh rfl (.tmp 111) (.tmp 126) 34 rfl (w.heap.size + 3) 68 i1 _ 4 32 Try.underlying34 hi1 hy0 hy1 hy2 (by decide) (.slice va (cusTo s k).length vc) (cusTo s k).length (flatC (cusTo s k)) rfl HM5.out.cus ⟨_, 0, none⟩ 1 (encP (ld, p2 % 50, p2 % 50 + s.wide * p3, p4 % 8)) rfl rfl (newsC_at _ (ld, p2 % 50, p2 % 50 + s.wide * p3, p4 % 8) _ _ (by simp)) (oneC _) (by unfold maxLen; omega) (by omega) HBS.out ?_; intro g4 cap4 w6 hown hgrow hfr; obtain ⟨hP, k5, kf⟩ := HM5.out.pushC (c := (ld, p2 % 50, p2 % 50 + s.wide * p3, p4 % 8)) hown hgrow hfr; have HP := Lib.hid hP; clear hown hgrow hfr hP)
                  have HLN : Hid ((cusTo s (k + 1)).length = (cusTo s k).length + 1) := Lib.hid (by rw [HN.out]; simp)
                  go_roundw
                  case rel => exact ⟨k + 1, _, by go_num, by omega, Lib.hid (by rw [HLN.out, HN.out]; exact HP.out)⟩
                  case measure => simp [intOf]; omega
              · have hd3 : decide (((cusTo s k).length : Int) < 6) = false := by simp; omega
                clear hnl
                have HN := Lib.hid (cusTo_off (s := s) (k := k) (by omega))
                go_wp2_with fail
                go_roundw
                case rel => exact ⟨k + 1, _, by go_num, by omega, Lib.hid (by rw [HN.out]; exact HM1.out)⟩
                case measure => simp [intOf]; omega
            · obtain rfl : k = s.whos.length := by omega
              obtain ⟨va, vc, hv⟩ := owns_shape HM.out.cus
              subst hv
              obtain ⟨c5, c6, cf⟩ := HM.out.cells
              have hns := cusTo_len (s := s) (Nat.le_refl s.whos.length)
              have hn3 : (cusTo s s.whos.length).length ≤ 6 := by omega
              clear hns
              go_upto_if 133 with fail
              go_cut [] from 133 to 136 (fun wx => ∃ cv, MkW w wx A s sv cv (satsOf s).length (cusOf s).length (satsOf s) (cusOf s))
              case first =>
                by_cases he : cusTo s s.whos.length = []
                · have HE : Hid (cusOf s = [(2, 5, 90, 1)]) := Lib.hid (by unfold cusOf; rw [if_pos he])
                  have hel : (((cusTo s s.whos.length).length : Int) == 0) = true := by rw [he]; rfl
                  have HP := Lib.hid (HM.out.oneC (2, 5, 90, 1))
                  obtain ⟨_, d6, df⟩ := (HM.out.later ((Below.refl wr.heap.size wr).alloc (Nat.le_refl _) (.cells #[.int .i64 2, .int .i64 5, .int .i64 90, .int .i64 1] 68))).cells
                  clear he
                  go_wp2_with fail
                  go_meet
                  exact ⟨_, by rw [HE.out]; exact HP.out⟩
                · have HE : Hid (cusOf s = cusTo s s.whos.length) := Lib.hid (by unfold cusOf; rw [if_neg he])
                  have hel : (((cusTo s s.whos.length).length : Int) == 0) = false := by
                    have : (cusTo s s.whos.length).length ≠ 0 := fun h => he (List.eq_nil_of_length_eq_zero h)
                    simp; omega
                  clear he
                  go_wp2_with fail
                  go_meet
                  exact ⟨_, by rw [HE.out]; exact HM.out⟩
              case rest =>
                obtain ⟨cv, hM⟩ := hcut
                have hMd := hM.later (Below.refl _ _).drew
                obtain ⟨saa, sac, hsv⟩ := owns_shape hM.sats
                obtain ⟨caa, cac, hcv⟩ := owns_shape hM.cus
                subst hsv hcv
                have HMD := Lib.hid hMd
                have hsl3 : (satsOf s).length ≤ 3 := satsOf_len s
                have hcl6 : (cusOf s).length ≤ 6 := cusOf_len s
                have HSN := Lib.hid (fun w2 => nodes_law (40 + s.e * s.wide) (1 + s.t % 4) (5 + s.wide * (s.tr % 40)) (1 + s.b % 6) (3 + s.wide * (s.br % 20)) saa (satsOf s).length sac caa (cusOf s).length cac none none 0 0 0 0 w2 (by omega))
                have HSK := Lib.hid (fun (w2 : World) (hb : Below w.heap.size w w2) => sq_any s.cost A.cn A.cc A.ca (nodesOf s) w2 (by unfold nodesOf; omega) ((HS.out.cost.later hb).mono hb.size))
                have HST := Lib.hid (fun (w2 : World) (hb : Below w.heap.size w w2) => sq_any s.time A.tn A.tc A.ta (nodesOf s) w2 (by unfold nodesOf; omega) ((HS.out.time.later hb).mono hb.size))
                clear hM hMd HM c5 c6 cf
                obtain ⟨k0, k1, k2, k3, k4, k5, k6, k7, k8⟩ := HMD.out.inst
                obtain ⟨_, _, q7, q8, _, _⟩ := HMD.out.small
                have kf := HMD.out.cells.2.2
                go_upto_region 25 with fail
                clear k0 k1 k2 k3 k4 k5 k6 k7 k8 q7 q8 kf
                go_cut [] from 137 to 148 (fun wx => ∃ ka kc ta tc C D VK VT, MadeW w wx A s saa sac caa cac ka kc ta tc C D VK VT)
                case first =>
                  obtain ⟨wz, hwz⟩ : ∃ wz, World.drew wc = wz := ⟨_, rfl⟩
                  have HZ := HMD
                  rw [hwz] at HZ
                  refine wp_region_held_drew (S := fun W => W.cell? ⟨w.heap.size, 7, none⟩ = some (.slice A.ca A.cn A.cc) ∧ W.cell? ⟨w.heap.size, 8, none⟩ = some (.slice A.ta A.tn A.tc)) (by kernel_rfl) ⟨HMD.out.small.2.2.1, HMD.out.small.2.2.2.1⟩ (fun hHeld => ?_)
                  rw [hwz] at hHeld ⊢
                  clear hwz HMD
                  refine wpAnyH_take (i := 0) (v := ?_) rfl (by kernel_rfl) (by kernel_rfl) (by kernel_rfl) (fun _ _ _ h => h) (Or.inl ⟨by rfl, ?_⟩) hHeld ?_
                  rotate_left
                  · intro W0 hW; obtain ⟨hW1, hW2⟩ := hW; go_simp; (try with_reducible rfl)
                  try simp only [Act.put, List.setIfInBounds_toArray, List.set_cons_zero, List.set_cons_succ, List.getElem_toArray, List.getElem_cons_zero]
                  refine wpAnyH_take (i := 1) (v := ?_) rfl (by kernel_rfl) (by kernel_rfl) (by kernel_rfl) (fun _ _ _ h => h) (Or.inl ⟨by rfl, ?_⟩) hHeld ?_
                  rotate_left
                  · intro W0 hW; obtain ⟨hW1, hW2⟩ := hW; go_simp; (try with_reducible rfl)
                  try simp only [Act.put, List.setIfInBounds_toArray, List.set_cons_zero, List.set_cons_succ, List.getElem_toArray, List.getElem_cons_zero, List.getElem_cons_succ]
                  refine wpAnyH_take (i := 5) (v := ?_) rfl (by kernel_rfl) (by kernel_rfl) (by kernel_rfl) (fun _ _ _ h => h) (Or.inl ⟨by rfl, ?_⟩) hHeld ?_
                  rotate_left
                  · intro W0 hW; obtain ⟨hW1, hW2⟩ := hW; go_simp; (try with_reducible rfl)
                  try simp only [Act.put, List.setIfInBounds_toArray, List.set_cons_zero, List.set_cons_succ, List.getElem_toArray, List.getElem_cons_zero, List.getElem_cons_succ]
                  refine wpAnyH_take (i := 6) (v := ?_) rfl (by kernel_rfl) (by kernel_rfl) (by kernel_rfl) (fun _ _ _ h => h) (Or.inl ⟨by rfl, ?_⟩) hHeld ?_
                  rotate_left
                  · intro W0 hW; obtain ⟨hW1, hW2⟩ := hW; go_simp; (try with_reducible rfl)
                  try simp only [Act.put, List.setIfInBounds_toArray, List.set_cons_zero, List.set_cons_succ, List.getElem_toArray, List.getElem_cons_zero, List.getElem_cons_succ]
                  refine wpAnyH_ready (rs := [2, 7]) (by kernel_rfl) (by simp) ?_
                  refine AllReadyH.cons rfl (fun K hK => ?_) (AllReadyH.cons rfl (fun K hK => ?_) AllReadyH.nil)
                  · obtain ⟨k0, k1, k2, k3, k4, k5, k6, k7, k8⟩ := HZ.out.inst
                    go_simp
                    refine hK.out _ _ ?_ (fun hHeld => ?_)
                    · exact hHeld
                    clear hK K
                    try simp only [Act.put, List.setIfInBounds_toArray, List.set_cons_zero, List.set_cons_succ, List.getElem_toArray, List.getElem_cons_zero, List.getElem_cons_succ]
                    clear k0 k1 k2 k3 k4 k5 k6 k7 k8
                    refine wpAnyH_ready (rs := [3, 7]) (by kernel_rfl) (by simp) ?_
                    refine AllReadyH.cons rfl (fun K hK => ?_) (AllReadyH.cons rfl (fun K hK => ?_) AllReadyH.nil)
                    · go_simp
                      refine (HSN.out _).mono ?_
                      rintro e u1 ⟨rfl, hb⟩
                      have HV1 := Lib.hid (HZ.out.later hb)
                      clear hb
                      refine hK.out _ _ ?_ (fun hHeld => ?_)
                      · exact ⟨HV1.out.small.2.2.1, HV1.out.small.2.2.2.1⟩
                      clear hK K
                      try simp only [Act.put, List.setIfInBounds_toArray, List.set_cons_zero, List.set_cons_succ, List.getElem_toArray, List.getElem_cons_zero, List.getElem_cons_succ]
                      refine wpAnyH_ready (rs := [4, 7]) (by kernel_rfl) (by simp) ?_
                      refine AllReadyH.cons rfl (fun K hK => ?_) (AllReadyH.cons rfl (fun K hK => ?_) AllReadyH.nil)
                      · go_simp
                        have HC1 := HV1
                        refine (HSK.out _ HV1.out.below).mono ?_
                        rintro e u2 ⟨vK, VK, rfl, hsq, hb⟩
                        obtain ⟨ka, kc, hvK⟩ := owns_shape hsq.outer
                        subst hvK
                        have HQK := Lib.hid hsq
                        have HBq := Lib.hid hb
                        have HV2 := Lib.hid (HV1.out.later hb)
                        clear hsq hb
                        refine hK.out _ _ ?_ (fun hHeld => ?_)
                        · exact ⟨HV2.out.small.2.2.1, HV2.out.small.2.2.2.1⟩
                        clear hK K
                        try simp only [Act.put, List.setIfInBounds_toArray, List.set_cons_zero, List.set_cons_succ, List.getElem_toArray, List.getElem_cons_zero, List.getElem_cons_succ]
                        refine wpAnyH_ready (rs := [7]) (by kernel_rfl) (by simp) ?_
                        refine AllReadyH.cons rfl (fun K hK => ?_) AllReadyH.nil
                        obtain ⟨k0, k1, k2, k3, k4, k5, k6, k7, k8⟩ := HV2.out.inst
                        go_simp
                        refine hK.out _ _ ?_ (fun hHeld => ?_)
                        · exact hHeld
                        clear hK K
                        try simp only [Act.put, List.setIfInBounds_toArray, List.set_cons_zero, List.set_cons_succ, List.getElem_toArray, List.getElem_cons_zero, List.getElem_cons_succ]
                        clear k0 k1 k2 k3 k4 k5 k6 k7 k8
                        refine wpAnyH_take (i := 10) (v := ?_) rfl (by kernel_rfl) (by kernel_rfl) (by kernel_rfl) (fun _ _ _ h => h) (Or.inl ⟨by rfl, ?_⟩) hHeld ?_
                        rotate_left
                        · intro W0 hW; obtain ⟨hW1, hW2⟩ := hW; go_simp; (try with_reducible rfl)
                        try simp only [Act.put, List.setIfInBounds_toArray, List.set_cons_zero, List.set_cons_succ, List.getElem_toArray, List.getElem_cons_zero, List.getElem_cons_succ]
                        refine wpAnyH_ready (rs := [8]) (by kernel_rfl) (by simp) ?_
                        refine AllReadyH.cons rfl (fun K hK => ?_) AllReadyH.nil
                        go_simp
                        refine (HSN.out _).mono ?_
                        rintro e u3 ⟨rfl, hb⟩
                        have HV3 := Lib.hid (HV2.out.later hb)
                        have HBn := Lib.hid hb
                        clear hb
                        refine hK.out _ _ ?_ (fun hHeld => ?_)
                        · exact ⟨HV3.out.small.2.2.1, HV3.out.small.2.2.2.1⟩
                        clear hK K
                        try simp only [Act.put, List.setIfInBounds_toArray, List.set_cons_zero, List.set_cons_succ, List.getElem_toArray, List.getElem_cons_zero, List.getElem_cons_succ]
                        refine wpAnyH_ready (rs := [9]) (by kernel_rfl) (by simp) ?_
                        refine AllReadyH.cons rfl (fun K hK => ?_) AllReadyH.nil
                        go_simp
                        refine (HST.out _ HV3.out.below).mono ?_
                        rintro e u4 ⟨vT, VT, rfl, hsq, hb⟩
                        obtain ⟨ta, tc, hvT⟩ := owns_shape hsq.outer
                        subst hvT
                        have HQT := Lib.hid hsq
                        have HV4 := Lib.hid (HV3.out.later hb)
                        have HBK := Lib.hid (HBn.out.trans (hb.mono HBn.out.size))
                        clear hsq hb
                        refine hK.out _ _ ?_ (fun hHeld => ?_)
                        · exact ⟨HV4.out.small.2.2.1, HV4.out.small.2.2.2.1⟩
                        clear hK K
                        try simp only [Act.put, List.setIfInBounds_toArray, List.set_cons_zero, List.set_cons_succ, List.getElem_toArray, List.getElem_cons_zero, List.getElem_cons_succ]
                        have HMA := Lib.hid (HV4.out.made HC1.out rfl (by unfold nodesOf; omega) HQK.out HBK.out HBn.out.size (Nat.le_trans HBq.out.size HBn.out.size) HQT.out)
                        obtain ⟨kf, r8, rf⟩ := HV4.out.two (.slice ka (nodesOf s) kc)
                        obtain ⟨_, _, _, _, _, _, _, k7, _⟩ := HV4.out.inst
                        have hF := heldTwo HV4.out (.slice ka (nodesOf s) kc) (.slice ta (nodesOf s) tc)
                        refine wpAnyH_ready (rs := [11]) (by kernel_rfl) (by simp) ?_
                        refine AllReadyH.cons rfl (fun K hK => ?_) AllReadyH.nil
                        go_simp
                        refine hK.out _ _ ?_ (fun hHeld => ?_)
                        · exact hF.1
                        clear hK K
                        try simp only [Act.put, List.setIfInBounds_toArray, List.set_cons_zero, List.set_cons_succ, List.getElem_toArray, List.getElem_cons_zero, List.getElem_cons_succ]
                        refine wpAnyH_take (i := 12) (v := ?_) rfl (by kernel_rfl) (by kernel_rfl) (by kernel_rfl) (fun _ _ _ h => h) (Or.inl ⟨by rfl, ?_⟩) hHeld ?_
                        rotate_left
                        · intro W0 hW; obtain ⟨hW1, hW2⟩ := hW; go_simp; (try with_reducible rfl)
                        try simp only [Act.put, List.setIfInBounds_toArray, List.set_cons_zero, List.set_cons_succ, List.getElem_toArray, List.getElem_cons_zero, List.getElem_cons_succ]
                        refine wpAnyH_ready (rs := [13]) (by kernel_rfl) (by simp) ?_
                        refine AllReadyH.cons rfl (fun K hK => ?_) AllReadyH.nil
                        go_simp
                        refine hK.out _ _ ?_ (fun hHeld => ?_)
                        · exact hF.2
                        clear hK K
                        try simp only [Act.put, List.setIfInBounds_toArray, List.set_cons_zero, List.set_cons_succ, List.getElem_toArray, List.getElem_cons_zero, List.getElem_cons_succ]
                        refine wpAnyH_done (by kernel_rfl) ?_ _
                        clear hHeld k7 r8 kf rf
                        go_wp2_with fail
                        go_meet
                        exact ⟨_, _, _, _, _, _, _, _, HMA.out⟩
                      · obtain ⟨k0, k1, k2, k3, k4, k5, k6, k7, k8⟩ := HV1.out.inst
                        go_simp
                        refine hK.out _ _ ?_ (fun hHeld => ?_)
                        · exact hHeld
                        clear hK K
                        try simp only [Act.put, List.setIfInBounds_toArray, List.set_cons_zero, List.set_cons_succ, List.getElem_toArray, List.getElem_cons_zero, List.getElem_cons_succ]
                        clear k0 k1 k2 k3 k4 k5 k6 k7 k8
                        refine wpAnyH_ready (rs := [4]) (by kernel_rfl) (by simp) ?_
                        refine AllReadyH.cons rfl (fun K hK => ?_) AllReadyH.nil
                        go_simp
                        have HC1 := HV1
                        refine (HSK.out _ HV1.out.below).mono ?_
                        rintro e u2 ⟨vK, VK, rfl, hsq, hb⟩
                        obtain ⟨ka, kc, hvK⟩ := owns_shape hsq.outer
                        subst hvK
                        have HQK := Lib.hid hsq
                        have HBq := Lib.hid hb
                        have HV2 := Lib.hid (HV1.out.later hb)
                        clear hsq hb
                        refine hK.out _ _ ?_ (fun hHeld => ?_)
                        · exact ⟨HV2.out.small.2.2.1, HV2.out.small.2.2.2.1⟩
                        clear hK K
                        try simp only [Act.put, List.setIfInBounds_toArray, List.set_cons_zero, List.set_cons_succ, List.getElem_toArray, List.getElem_cons_zero, List.getElem_cons_succ]
                        refine wpAnyH_take (i := 10) (v := ?_) rfl (by kernel_rfl) (by kernel_rfl) (by kernel_rfl) (fun _ _ _ h => h) (Or.inl ⟨by rfl, ?_⟩) hHeld ?_
                        rotate_left
                        · intro W0 hW; obtain ⟨hW1, hW2⟩ := hW; go_simp; (try with_reducible rfl)
                        try simp only [Act.put, List.setIfInBounds_toArray, List.set_cons_zero, List.set_cons_succ, List.getElem_toArray, List.getElem_cons_zero, List.getElem_cons_succ]
                        refine wpAnyH_ready (rs := [8]) (by kernel_rfl) (by simp) ?_
                        refine AllReadyH.cons rfl (fun K hK => ?_) AllReadyH.nil
                        go_simp
                        refine (HSN.out _).mono ?_
                        rintro e u3 ⟨rfl, hb⟩
                        have HV3 := Lib.hid (HV2.out.later hb)
                        have HBn := Lib.hid hb
                        clear hb
                        refine hK.out _ _ ?_ (fun hHeld => ?_)
                        · exact ⟨HV3.out.small.2.2.1, HV3.out.small.2.2.2.1⟩
                        clear hK K
                        try simp only [Act.put, List.setIfInBounds_toArray, List.set_cons_zero, List.set_cons_succ, List.getElem_toArray, List.getElem_cons_zero, List.getElem_cons_succ]
                        refine wpAnyH_ready (rs := [9]) (by kernel_rfl) (by simp) ?_
                        refine AllReadyH.cons rfl (fun K hK => ?_) AllReadyH.nil
                        go_simp
                        refine (HST.out _ HV3.out.below).mono ?_
                        rintro e u4 ⟨vT, VT, rfl, hsq, hb⟩
                        obtain ⟨ta, tc, hvT⟩ := owns_shape hsq.outer
                        subst hvT
                        have HQT := Lib.hid hsq
                        have HV4 := Lib.hid (HV3.out.later hb)
                        have HBK := Lib.hid (HBn.out.trans (hb.mono HBn.out.size))
                        clear hsq hb
                        refine hK.out _ _ ?_ (fun hHeld => ?_)
                        · exact ⟨HV4.out.small.2.2.1, HV4.out.small.2.2.2.1⟩
                        clear hK K
                        try simp only [Act.put, List.setIfInBounds_toArray, List.set_cons_zero, List.set_cons_succ, List.getElem_toArray, List.getElem_cons_zero, List.getElem_cons_succ]
                        have HMA := Lib.hid (HV4.out.made HC1.out rfl (by unfold nodesOf; omega) HQK.out HBK.out HBn.out.size (Nat.le_trans HBq.out.size HBn.out.size) HQT.out)
                        obtain ⟨kf, r8, rf⟩ := HV4.out.two (.slice ka (nodesOf s) kc)
                        obtain ⟨_, _, _, _, _, _, _, k7, _⟩ := HV4.out.inst
                        have hF := heldTwo HV4.out (.slice ka (nodesOf s) kc) (.slice ta (nodesOf s) tc)
                        refine wpAnyH_ready (rs := [11]) (by kernel_rfl) (by simp) ?_
                        refine AllReadyH.cons rfl (fun K hK => ?_) AllReadyH.nil
                        go_simp
                        refine hK.out _ _ ?_ (fun hHeld => ?_)
                        · exact hF.1
                        clear hK K
                        try simp only [Act.put, List.setIfInBounds_toArray, List.set_cons_zero, List.set_cons_succ, List.getElem_toArray, List.getElem_cons_zero, List.getElem_cons_succ]
                        refine wpAnyH_take (i := 12) (v := ?_) rfl (by kernel_rfl) (by kernel_rfl) (by kernel_rfl) (fun _ _ _ h => h) (Or.inl ⟨by rfl, ?_⟩) hHeld ?_
                        rotate_left
                        · intro W0 hW; obtain ⟨hW1, hW2⟩ := hW; go_simp; (try with_reducible rfl)
                        try simp only [Act.put, List.setIfInBounds_toArray, List.set_cons_zero, List.set_cons_succ, List.getElem_toArray, List.getElem_cons_zero, List.getElem_cons_succ]
                        refine wpAnyH_ready (rs := [13]) (by kernel_rfl) (by simp) ?_
                        refine AllReadyH.cons rfl (fun K hK => ?_) AllReadyH.nil
                        go_simp
                        refine hK.out _ _ ?_ (fun hHeld => ?_)
                        · exact hF.2
                        clear hK K
                        try simp only [Act.put, List.setIfInBounds_toArray, List.set_cons_zero, List.set_cons_succ, List.getElem_toArray, List.getElem_cons_zero, List.getElem_cons_succ]
                        refine wpAnyH_done (by kernel_rfl) ?_ _
                        clear hHeld k7 r8 kf rf
                        go_wp2_with fail
                        go_meet
                        exact ⟨_, _, _, _, _, _, _, _, HMA.out⟩
                    · obtain ⟨k0, k1, k2, k3, k4, k5, k6, k7, k8⟩ := HZ.out.inst
                      go_simp
                      refine hK.out _ _ ?_ (fun hHeld => ?_)
                      · exact hHeld
                      clear hK K
                      try simp only [Act.put, List.setIfInBounds_toArray, List.set_cons_zero, List.set_cons_succ, List.getElem_toArray, List.getElem_cons_zero, List.getElem_cons_succ]
                      clear k0 k1 k2 k3 k4 k5 k6 k7 k8
                      refine wpAnyH_ready (rs := [3]) (by kernel_rfl) (by simp) ?_
                      refine AllReadyH.cons rfl (fun K hK => ?_) AllReadyH.nil
                      go_simp
                      refine (HSN.out _).mono ?_
                      rintro e u1 ⟨rfl, hb⟩
                      have HV1 := Lib.hid (HZ.out.later hb)
                      clear hb
                      refine hK.out _ _ ?_ (fun hHeld => ?_)
                      · exact ⟨HV1.out.small.2.2.1, HV1.out.small.2.2.2.1⟩
                      clear hK K
                      try simp only [Act.put, List.setIfInBounds_toArray, List.set_cons_zero, List.set_cons_succ, List.getElem_toArray, List.getElem_cons_zero, List.getElem_cons_succ]
                      refine wpAnyH_ready (rs := [4]) (by kernel_rfl) (by simp) ?_
                      refine AllReadyH.cons rfl (fun K hK => ?_) AllReadyH.nil
                      go_simp
                      have HC1 := HV1
                      refine (HSK.out _ HV1.out.below).mono ?_
                      rintro e u2 ⟨vK, VK, rfl, hsq, hb⟩
                      obtain ⟨ka, kc, hvK⟩ := owns_shape hsq.outer
                      subst hvK
                      have HQK := Lib.hid hsq
                      have HBq := Lib.hid hb
                      have HV2 := Lib.hid (HV1.out.later hb)
                      clear hsq hb
                      refine hK.out _ _ ?_ (fun hHeld => ?_)
                      · exact ⟨HV2.out.small.2.2.1, HV2.out.small.2.2.2.1⟩
                      clear hK K
                      try simp only [Act.put, List.setIfInBounds_toArray, List.set_cons_zero, List.set_cons_succ, List.getElem_toArray, List.getElem_cons_zero, List.getElem_cons_succ]
                      refine wpAnyH_take (i := 10) (v := ?_) rfl (by kernel_rfl) (by kernel_rfl) (by kernel_rfl) (fun _ _ _ h => h) (Or.inl ⟨by rfl, ?_⟩) hHeld ?_
                      rotate_left
                      · intro W0 hW; obtain ⟨hW1, hW2⟩ := hW; go_simp; (try with_reducible rfl)
                      try simp only [Act.put, List.setIfInBounds_toArray, List.set_cons_zero, List.set_cons_succ, List.getElem_toArray, List.getElem_cons_zero, List.getElem_cons_succ]
                      refine wpAnyH_ready (rs := [8]) (by kernel_rfl) (by simp) ?_
                      refine AllReadyH.cons rfl (fun K hK => ?_) AllReadyH.nil
                      go_simp
                      refine (HSN.out _).mono ?_
                      rintro e u3 ⟨rfl, hb⟩
                      have HV3 := Lib.hid (HV2.out.later hb)
                      have HBn := Lib.hid hb
                      clear hb
                      refine hK.out _ _ ?_ (fun hHeld => ?_)
                      · exact ⟨HV3.out.small.2.2.1, HV3.out.small.2.2.2.1⟩
                      clear hK K
                      try simp only [Act.put, List.setIfInBounds_toArray, List.set_cons_zero, List.set_cons_succ, List.getElem_toArray, List.getElem_cons_zero, List.getElem_cons_succ]
                      refine wpAnyH_ready (rs := [9]) (by kernel_rfl) (by simp) ?_
                      refine AllReadyH.cons rfl (fun K hK => ?_) AllReadyH.nil
                      go_simp
                      refine (HST.out _ HV3.out.below).mono ?_
                      rintro e u4 ⟨vT, VT, rfl, hsq, hb⟩
                      obtain ⟨ta, tc, hvT⟩ := owns_shape hsq.outer
                      subst hvT
                      have HQT := Lib.hid hsq
                      have HV4 := Lib.hid (HV3.out.later hb)
                      have HBK := Lib.hid (HBn.out.trans (hb.mono HBn.out.size))
                      clear hsq hb
                      refine hK.out _ _ ?_ (fun hHeld => ?_)
                      · exact ⟨HV4.out.small.2.2.1, HV4.out.small.2.2.2.1⟩
                      clear hK K
                      try simp only [Act.put, List.setIfInBounds_toArray, List.set_cons_zero, List.set_cons_succ, List.getElem_toArray, List.getElem_cons_zero, List.getElem_cons_succ]
                      have HMA := Lib.hid (HV4.out.made HC1.out rfl (by unfold nodesOf; omega) HQK.out HBK.out HBn.out.size (Nat.le_trans HBq.out.size HBn.out.size) HQT.out)
                      obtain ⟨kf, r8, rf⟩ := HV4.out.two (.slice ka (nodesOf s) kc)
                      obtain ⟨_, _, _, _, _, _, _, k7, _⟩ := HV4.out.inst
                      have hF := heldTwo HV4.out (.slice ka (nodesOf s) kc) (.slice ta (nodesOf s) tc)
                      refine wpAnyH_ready (rs := [11]) (by kernel_rfl) (by simp) ?_
                      refine AllReadyH.cons rfl (fun K hK => ?_) AllReadyH.nil
                      go_simp
                      refine hK.out _ _ ?_ (fun hHeld => ?_)
                      · exact hF.1
                      clear hK K
                      try simp only [Act.put, List.setIfInBounds_toArray, List.set_cons_zero, List.set_cons_succ, List.getElem_toArray, List.getElem_cons_zero, List.getElem_cons_succ]
                      refine wpAnyH_take (i := 12) (v := ?_) rfl (by kernel_rfl) (by kernel_rfl) (by kernel_rfl) (fun _ _ _ h => h) (Or.inl ⟨by rfl, ?_⟩) hHeld ?_
                      rotate_left
                      · intro W0 hW; obtain ⟨hW1, hW2⟩ := hW; go_simp; (try with_reducible rfl)
                      try simp only [Act.put, List.setIfInBounds_toArray, List.set_cons_zero, List.set_cons_succ, List.getElem_toArray, List.getElem_cons_zero, List.getElem_cons_succ]
                      refine wpAnyH_ready (rs := [13]) (by kernel_rfl) (by simp) ?_
                      refine AllReadyH.cons rfl (fun K hK => ?_) AllReadyH.nil
                      go_simp
                      refine hK.out _ _ ?_ (fun hHeld => ?_)
                      · exact hF.2
                      clear hK K
                      try simp only [Act.put, List.setIfInBounds_toArray, List.set_cons_zero, List.set_cons_succ, List.getElem_toArray, List.getElem_cons_zero, List.getElem_cons_succ]
                      refine wpAnyH_done (by kernel_rfl) ?_ _
                      clear hHeld k7 r8 kf rf
                      go_wp2_with fail
                      go_meet
                      exact ⟨_, _, _, _, _, _, _, _, HMA.out⟩
                  · obtain ⟨k0, k1, k2, k3, k4, k5, k6, k7, k8⟩ := HZ.out.inst
                    go_simp
                    refine hK.out _ _ ?_ (fun hHeld => ?_)
                    · exact hHeld
                    clear hK K
                    try simp only [Act.put, List.setIfInBounds_toArray, List.set_cons_zero, List.set_cons_succ, List.getElem_toArray, List.getElem_cons_zero, List.getElem_cons_succ]
                    clear k0 k1 k2 k3 k4 k5 k6 k7 k8
                    refine wpAnyH_ready (rs := [2]) (by kernel_rfl) (by simp) ?_
                    refine AllReadyH.cons rfl (fun K hK => ?_) AllReadyH.nil
                    obtain ⟨k0, k1, k2, k3, k4, k5, k6, k7, k8⟩ := HZ.out.inst
                    go_simp
                    refine hK.out _ _ ?_ (fun hHeld => ?_)
                    · exact hHeld
                    clear hK K
                    try simp only [Act.put, List.setIfInBounds_toArray, List.set_cons_zero, List.set_cons_succ, List.getElem_toArray, List.getElem_cons_zero, List.getElem_cons_succ]
                    clear k0 k1 k2 k3 k4 k5 k6 k7 k8
                    refine wpAnyH_ready (rs := [3]) (by kernel_rfl) (by simp) ?_
                    refine AllReadyH.cons rfl (fun K hK => ?_) AllReadyH.nil
                    go_simp
                    refine (HSN.out _).mono ?_
                    rintro e u1 ⟨rfl, hb⟩
                    have HV1 := Lib.hid (HZ.out.later hb)
                    clear hb
                    refine hK.out _ _ ?_ (fun hHeld => ?_)
                    · exact ⟨HV1.out.small.2.2.1, HV1.out.small.2.2.2.1⟩
                    clear hK K
                    try simp only [Act.put, List.setIfInBounds_toArray, List.set_cons_zero, List.set_cons_succ, List.getElem_toArray, List.getElem_cons_zero, List.getElem_cons_succ]
                    refine wpAnyH_ready (rs := [4]) (by kernel_rfl) (by simp) ?_
                    refine AllReadyH.cons rfl (fun K hK => ?_) AllReadyH.nil
                    go_simp
                    have HC1 := HV1
                    refine (HSK.out _ HV1.out.below).mono ?_
                    rintro e u2 ⟨vK, VK, rfl, hsq, hb⟩
                    obtain ⟨ka, kc, hvK⟩ := owns_shape hsq.outer
                    subst hvK
                    have HQK := Lib.hid hsq
                    have HBq := Lib.hid hb
                    have HV2 := Lib.hid (HV1.out.later hb)
                    clear hsq hb
                    refine hK.out _ _ ?_ (fun hHeld => ?_)
                    · exact ⟨HV2.out.small.2.2.1, HV2.out.small.2.2.2.1⟩
                    clear hK K
                    try simp only [Act.put, List.setIfInBounds_toArray, List.set_cons_zero, List.set_cons_succ, List.getElem_toArray, List.getElem_cons_zero, List.getElem_cons_succ]
                    refine wpAnyH_take (i := 10) (v := ?_) rfl (by kernel_rfl) (by kernel_rfl) (by kernel_rfl) (fun _ _ _ h => h) (Or.inl ⟨by rfl, ?_⟩) hHeld ?_
                    rotate_left
                    · intro W0 hW; obtain ⟨hW1, hW2⟩ := hW; go_simp; (try with_reducible rfl)
                    try simp only [Act.put, List.setIfInBounds_toArray, List.set_cons_zero, List.set_cons_succ, List.getElem_toArray, List.getElem_cons_zero, List.getElem_cons_succ]
                    refine wpAnyH_ready (rs := [8]) (by kernel_rfl) (by simp) ?_
                    refine AllReadyH.cons rfl (fun K hK => ?_) AllReadyH.nil
                    go_simp
                    refine (HSN.out _).mono ?_
                    rintro e u3 ⟨rfl, hb⟩
                    have HV3 := Lib.hid (HV2.out.later hb)
                    have HBn := Lib.hid hb
                    clear hb
                    refine hK.out _ _ ?_ (fun hHeld => ?_)
                    · exact ⟨HV3.out.small.2.2.1, HV3.out.small.2.2.2.1⟩
                    clear hK K
                    try simp only [Act.put, List.setIfInBounds_toArray, List.set_cons_zero, List.set_cons_succ, List.getElem_toArray, List.getElem_cons_zero, List.getElem_cons_succ]
                    refine wpAnyH_ready (rs := [9]) (by kernel_rfl) (by simp) ?_
                    refine AllReadyH.cons rfl (fun K hK => ?_) AllReadyH.nil
                    go_simp
                    refine (HST.out _ HV3.out.below).mono ?_
                    rintro e u4 ⟨vT, VT, rfl, hsq, hb⟩
                    obtain ⟨ta, tc, hvT⟩ := owns_shape hsq.outer
                    subst hvT
                    have HQT := Lib.hid hsq
                    have HV4 := Lib.hid (HV3.out.later hb)
                    have HBK := Lib.hid (HBn.out.trans (hb.mono HBn.out.size))
                    clear hsq hb
                    refine hK.out _ _ ?_ (fun hHeld => ?_)
                    · exact ⟨HV4.out.small.2.2.1, HV4.out.small.2.2.2.1⟩
                    clear hK K
                    try simp only [Act.put, List.setIfInBounds_toArray, List.set_cons_zero, List.set_cons_succ, List.getElem_toArray, List.getElem_cons_zero, List.getElem_cons_succ]
                    have HMA := Lib.hid (HV4.out.made HC1.out rfl (by unfold nodesOf; omega) HQK.out HBK.out HBn.out.size (Nat.le_trans HBq.out.size HBn.out.size) HQT.out)
                    obtain ⟨kf, r8, rf⟩ := HV4.out.two (.slice ka (nodesOf s) kc)
                    obtain ⟨_, _, _, _, _, _, _, k7, _⟩ := HV4.out.inst
                    have hF := heldTwo HV4.out (.slice ka (nodesOf s) kc) (.slice ta (nodesOf s) tc)
                    refine wpAnyH_ready (rs := [11]) (by kernel_rfl) (by simp) ?_
                    refine AllReadyH.cons rfl (fun K hK => ?_) AllReadyH.nil
                    go_simp
                    refine hK.out _ _ ?_ (fun hHeld => ?_)
                    · exact hF.1
                    clear hK K
                    try simp only [Act.put, List.setIfInBounds_toArray, List.set_cons_zero, List.set_cons_succ, List.getElem_toArray, List.getElem_cons_zero, List.getElem_cons_succ]
                    refine wpAnyH_take (i := 12) (v := ?_) rfl (by kernel_rfl) (by kernel_rfl) (by kernel_rfl) (fun _ _ _ h => h) (Or.inl ⟨by rfl, ?_⟩) hHeld ?_
                    rotate_left
                    · intro W0 hW; obtain ⟨hW1, hW2⟩ := hW; go_simp; (try with_reducible rfl)
                    try simp only [Act.put, List.setIfInBounds_toArray, List.set_cons_zero, List.set_cons_succ, List.getElem_toArray, List.getElem_cons_zero, List.getElem_cons_succ]
                    refine wpAnyH_ready (rs := [13]) (by kernel_rfl) (by simp) ?_
                    refine AllReadyH.cons rfl (fun K hK => ?_) AllReadyH.nil
                    go_simp
                    refine hK.out _ _ ?_ (fun hHeld => ?_)
                    · exact hF.2
                    clear hK K
                    try simp only [Act.put, List.setIfInBounds_toArray, List.set_cons_zero, List.set_cons_succ, List.getElem_toArray, List.getElem_cons_zero, List.getElem_cons_succ]
                    refine wpAnyH_done (by kernel_rfl) ?_ _
                    clear hHeld k7 r8 kf rf
                    go_wp2_with fail
                    go_meet
                    exact ⟨_, _, _, _, _, _, _, _, HMA.out⟩
                case rest =>
                  obtain ⟨ka, kc, ta, tc, C, D, VK, VT, hM⟩ := hcut
                  have HMW := Lib.hid hM
                  have hy := hM.y
                  unfold insC at hy
                  obtain ⟨m0, m1, m2, m3, m4, m5, m6, m7, m8, _⟩ := cells9 hy
                  obtain ⟨n0, n1, n2, n3, n4, n5, n6, n7, n8, nf⟩ := cells9 hM.res
                  clear hM hy HSN HSK HST HMD
                  go_wp2_with fail
                  have hb9 := storeI_blk (y0 := .int .i64 (makeI s).en) (y1 := .int .i64 (makeI s).tm) (y2 := .int .i64 (makeI s).tr) (y3 := .int .i64 (makeI s).bm) (y4 := .int .i64 (makeI s).br) (y5 := .slice saa (makeI s).sats.length sac) (y6 := .slice caa (makeI s).cus.length cac) (y7 := .slice ka (makeI s).cost.length kc) (y8 := .slice ta (makeI s).time.length tc) HMW.out.res
                  obtain ⟨z0, z1, z2, z3, z4, z5, z6, z7, z8, _⟩ := cells9 hb9
                  unfold storeI at z0 z1 z2 z3 z4 z5 z6 z7 z8
                  refine bodyPost_ret (v := .agg (insC ⟨saa, sac, caa, cac, ka, kc, ta, tc⟩ (makeI s))) ?_ rfl ⟨⟨⟨saa, sac, caa, cac, ka, kc, ta, tc⟩, rfl, C, D, VK, VT, storeI_own HMW.out.own (by omega)⟩, storeI_below HMW.out.below (by omega)⟩
                  unfold insC
                  clear m0 m1 m2 m3 m4 m5 m6 m7 m8 n0 n1 n2 n3 n4 n5 n6 n7 n8 nf hb9
                  simp only [results, Try.results10]
                  simp [go_sem, z0, z1, z2, z3, z4, z5, z6, z7, z8]
end Go.Proofs.Ytmnbpnjakbihdaa
