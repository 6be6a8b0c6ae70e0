/- The walk of the law on Clone (of package inst). -/
import Derived.Test.YtkapknfcepcijaaIClonesT
import Derived.Test.YtkapknfcepcijaaISame
import Derived.Deep.RegionHeld3
import Derived.Deep.CutRange
namespace Go.Proofs.Ytkapknfcepcijaa
open Go.RowKit

theorem HXF9 {w w2 W : World} {A : SmA} {s : Sm} {A2 : InA} {x : Ins} {gx : Nat} (h : XBox w2 W gx A2 x) (h2 : SBox w W A s) : (W.cell? ⟨gx, 0, none⟩ = some (.int .i64 x.en) ∧ W.cell? ⟨gx, 1, none⟩ = some (.int .i64 x.tm) ∧ W.cell? ⟨gx, 2, none⟩ = some (.int .i64 x.tr) ∧ W.cell? ⟨gx, 3, none⟩ = some (.int .i64 x.bm) ∧ W.cell? ⟨gx, 4, none⟩ = some (.int .i64 x.br) ∧ W.cell? ⟨gx, 5, none⟩ = some (.slice A2.sa x.sats.length A2.sc) ∧ W.cell? ⟨gx, 6, none⟩ = some (.slice A2.ca x.cus.length A2.cc) ∧ W.cell? ⟨gx, 7, none⟩ = some (.slice A2.ka x.cost.length A2.kc) ∧ W.cell? ⟨gx, 8, none⟩ = some (.slice A2.ta x.time.length A2.tc)) ∧ (W.cell? ⟨w.heap.size, 0, none⟩ = some (.int .u8 s.e) ∧ W.cell? ⟨w.heap.size, 1, none⟩ = some (.int .u8 s.t) ∧ W.cell? ⟨w.heap.size, 2, none⟩ = some (.int .u8 s.tr) ∧ W.cell? ⟨w.heap.size, 3, none⟩ = some (.int .u8 s.b) ∧ W.cell? ⟨w.heap.size, 4, none⟩ = some (.int .u8 s.br) ∧ W.cell? ⟨w.heap.size, 5, none⟩ = some (.slice A.sa s.sats.length A.sc) ∧ W.cell? ⟨w.heap.size, 6, none⟩ = some (.slice A.wa s.whos.length A.wc) ∧ W.cell? ⟨w.heap.size, 7, none⟩ = some (.slice A.ca A.cn A.cc) ∧ W.cell? ⟨w.heap.size, 8, none⟩ = some (.slice A.ta A.tn A.tc) ∧ W.cell? ⟨w.heap.size, 9, none⟩ = some (.bool s.tight) ∧ W.cell? ⟨w.heap.size, 10, none⟩ = some (.bool s.loose)) := ⟨h.cells, h2.cells⟩
set_option maxHeartbeats 4000000 in
set_option maxRecDepth 100000 in
theorem instClones_walk (A : SmA) (s : Sm) (n : Int) (w : World) (hs : IsSm w.heap.size w A s) :
    Calls Try.prog 7 #[.agg (smC A s), .int .i64 n] w fun e w' => e = .returned (.bool true) ∧ Below w.heap.size w w' := by
  have HS := Lib.hid (SBox.make w A s)
  have HSM := Lib.hid hs
  have hlg := makeI_light s
  have hok := makeI_ok hs.okl
  have hn1 : (makeI s).sats.length ≤ 3 := (satsOf_le s).2
  have hn2 : (makeI s).cus.length ≤ 6 := (cusOf_le s).2
  have hn3 : (makeI s).cost.length = nodesOf s := sqRows_length _ _
  have hn4 : nodesOf s ≤ 10 := (nodes_le s).2
  have HR1 : Hid (∀ (i : Nat) (r : List Int), (makeI s).cost[i]? = some r → r.length = nodesOf s) := Lib.hid (fun i r hr => sqRows_mem (List.mem_of_getElem? hr))
  have HR2 : Hid (∀ (i : Nat) (r : List Int), (makeI s).time[i]? = some r → r.length = nodesOf s) := Lib.hid (fun i r hr => sqRows_mem (List.mem_of_getElem? hr))
  have HT4 : Hid ((makeI s).time.length = nodesOf s) := Lib.hid (sqRows_length _ _)
  have HMK := Lib.hid (fun (W : World) (h : IsSm W.heap.size W A s) => make_any A s W h)
  obtain ⟨x, hx⟩ : ∃ x, makeI s = x := ⟨_, rfl⟩
  obtain ⟨N, hN⟩ : ∃ N, nodesOf s = N := ⟨_, rfl⟩
  rw [hx] at hlg hok hn1 hn2 hn3 HR1 HR2 HT4 HMK
  rw [hN] at hn3 hn4 HR1 HR2 HT4 HMK
  have HN3 := Lib.hid hn3
  have HOK := Lib.hid hok
  have HLG := Lib.hid hlg
  clear hx hN hs hn3 hok hlg
  unfold smC at *
  go_enter Try.func7, Try.ntmps7
  go_wp2_with (first
    | (go_at_call 8; refine (inst_awake _).mono ?_; rintro e w1 ⟨rfl, hb1⟩; have HS1 := Lib.hid (HS.out.later hb1); obtain ⟨j0, j1, j2, j3, j4, j5, j6, j7, j8, j9, j10⟩ := HS1.out.cells; clear hb1)
    | (go_at_call 12; refine (HMK.out _ (HS1.out.here HSM.out)).mono ?_; rintro e w2 ⟨⟨A2, rfl, C, D, VK, VT, hown⟩, hb2⟩; have HS2 := Lib.hid (HS1.out.later hb2); have HI2 := Lib.hid hown.is_; have HX3 := Lib.hid (XBox.make (Below.refl _ w2) A2 x); have HI3 := Lib.hid (HX3.out.pipesHere HI2.out); clear hown hb2 j0 j1 j2 j3 j4 j5 j6 j7 j8 j9 j10)
    | (go_at_call 19; refine (clone_any A2 x _ HI3.out HLG.out).mono ?_; rintro e w4 ⟨hb4, A4, rfl, hclo⟩; have HB4 := Lib.hid hb4; have HC4 := Lib.hid hclo; clear hb4 hclo))
  have HS3 := Lib.hid (HS2.out.later (below1 w2 (.cells (insC A2 x) 28)))
  have HY0 : Hid (YW (w2.alloc (.cells (insC A2 x) 28)) (w4.alloc (.cells (insC A4 x) 28)) (w2.alloc (.cells (insC A2 x) 28)).heap.size w4.heap.size A4 x N) := Lib.hid (by
    have hb := below1 w4 (.cells (insC A4 x) 28)
    have hc := HC4.out.later hb
    exact ⟨HB4.out.trans (hb.mono HB4.out.size), HB4.out.size, heap_alloc_new _ _, own_wrow hc.sats, own_wrow hc.cus, hc.cost.wsq HN3.out HR1.out, hc.time.wsq HT4.out HR2.out⟩)
  obtain ⟨gx, hgx⟩ : ∃ gx, w2.heap.size = gx := ⟨_, rfl⟩
  obtain ⟨W3, hW3⟩ : ∃ W3, w2.alloc (.cells (insC A2 x) 28) = W3 := ⟨_, rfl⟩
  unfold insC at hW3
  obtain ⟨gy, hgy⟩ : ∃ gy, w4.heap.size = gy := ⟨_, rfl⟩
  obtain ⟨W5, hW5⟩ : ∃ W5, w4.alloc (.cells (insC A4 x) 28) = W5 := ⟨_, rfl⟩
  unfold insC at hW5
  unfold insC at HX3 HI3 HB4 HC4 HS3 HY0
  rw [hW3] at HX3 HI3 HB4 HC4 HS3 HY0
  rw [hW5, hgy] at HY0
  rw [hgx] at HX3
  try rw [hgx]
  try rw [hgy]
  try rw [hW5]
  clear hW3 hW5 hgy HC4 HI2 HS2 HS1 HS HB4
  have HYA := HY0
  go_loopw [20] (fun iv wr => ∃ i : Nat, iv = .int .i64 (i : Int) ∧ i ≤ x.sats.length ∧ Hid (YW W3 wr W3.heap.size gy A4 x N)) (fun iv _ => x.sats.length - (intOf iv).toNat)
  case atStart => exact ⟨0, rfl, Nat.zero_le _, HYA⟩
  case round =>
    obtain ⟨i, rfl, hi, HY⟩ := hrel
    clear HYA
    try clear HY0
    by_cases hlt : i < x.sats.length
    · obtain ⟨g, v, cur, hga, hB, c0, f0, hblk⟩ := HY.out.sats.at_ (i := i * 2) (by omega)
      have HYN := Lib.hid (HY.out.set_ hblk hB (by decide) (by decide) (i * 2) (.int .i64 n))
      have k5 := HY.out.cells.1
      rw [hga] at k5
      clear hblk
      go_wp2_with fail
      go_roundw
      case rel => exact ⟨i + 1, by go_num, by omega, HYN⟩
      case measure => simp [intOf]; omega
    · obtain rfl : i = x.sats.length := by omega
      clear hi hlt
      obtain ⟨k5, k6, k7, k8⟩ := HY.out.cells
      go_wp2_with fail
      clear k5 k6 k7 k8
      have HYA := HY
      go_loopw [33] (fun iv wr => ∃ i : Nat, iv = .int .i64 (i : Int) ∧ i ≤ x.cus.length ∧ Hid (YW W3 wr W3.heap.size gy A4 x N)) (fun iv _ => x.cus.length - (intOf iv).toNat)
      case atStart => exact ⟨0, rfl, Nat.zero_le _, HYA⟩
      case round =>
        obtain ⟨i, rfl, hi, HY⟩ := hrel
        clear HYA
        try clear HY0
        by_cases hlt : i < x.cus.length
        · obtain ⟨g, v, cur, hga, hB, c0, f0, hblk⟩ := HY.out.cus.at_ (i := i * 4) (by omega)
          have HYN := Lib.hid (HY.out.set_ hblk hB (by decide) (by decide) (i * 4) (.int .i64 n))
          have k5 := HY.out.cells.2.1
          rw [hga] at k5
          clear hblk
          go_wp2_with fail
          go_roundw
          case rel => exact ⟨i + 1, by go_num, by omega, HYN⟩
          case measure => simp [intOf]; omega
        · obtain rfl : i = x.cus.length := by omega
          clear hi hlt
          obtain ⟨k5, k6, k7, k8⟩ := HY.out.cells
          go_wp2_with fail
          clear k5 k6 k7 k8
          have HYA := HY
          go_loopw [46] (fun iv wr => ∃ i : Nat, iv = .int .i64 (i : Int) ∧ i ≤ x.cost.length ∧ Hid (YW W3 wr W3.heap.size gy A4 x N)) (fun iv _ => x.cost.length - (intOf iv).toNat)
          case atStart => exact ⟨0, rfl, Nat.zero_le _, HYA⟩
          case round =>
            obtain ⟨i, rfl, hi, HY⟩ := hrel
            clear HYA
            have hin : x.cost.length ≤ 10 := by have := HN3.out; omega
            by_cases hlt : i < x.cost.length
            · have hiN : i < N := by have := HN3.out; omega
              obtain ⟨g1, ra, rc, hka, q1, _⟩ := HY.out.cost.at_ hiN
              obtain ⟨k5, k6, k7, k8⟩ := HY.out.cells
              rw [hka] at k7
              go_wp2_with fail
              clear k5 k6 k7 k8 q1 hka
              have HYB := HY
              go_loopw [55] (fun kv wr => ∃ k : Nat, kv = .int .i64 (k : Int) ∧ k ≤ N ∧ Hid (YW W3 wr W3.heap.size gy A4 x N)) (fun kv _ => N - (intOf kv).toNat)
              case atStart => exact ⟨0, rfl, Nat.zero_le _, HYB⟩
              case round =>
                obtain ⟨k, rfl, hk, HZ⟩ := hrel
                clear HYB HY
                by_cases hlk : k < N
                · obtain ⟨g1, p1, c1, g2, p2, c2, v1, v2, hka, hta, a1, a2, d1, z1, a3, d2, z2, hY1, hY2⟩ := HZ.out.two hiN hlk (.int .i64 n)
                  have HY2 := Lib.hid (hY2.later (Below.refl _ _).drew (by simpa using Nat.le_trans HZ.out.below.size (Nat.le_refl _)))
                  obtain ⟨_, _, k7, k8⟩ := HZ.out.cells
                  obtain ⟨_, _, _, r8⟩ := hY1.cells
                  have hlN : x.time.length = N := HT4.out
                  rw [hka] at k7
                  rw [hta] at k8 r8
                  clear hY1 hY2
                  go_upto_region 21 with fail
                  go_region
                  all_goals
                    go_wp2_with fail
                    go_roundw
                    case rel => exact ⟨k + 1, by go_num, by omega, HY2⟩
                    case measure => simp [intOf]; omega
                · obtain rfl : k = N := by omega
                  go_wp2_with fail
                  go_roundw
                  case rel => exact ⟨i + 1, by go_num, by omega, HZ⟩
                  case measure => simp [intOf]; omega
            · obtain rfl : i = x.cost.length := by omega
              clear hi hlt
              clear HN3 HR1 HR2 HT4
              go_wp2_with fail
              have HXD := Lib.hid ((HX3.out.later HY.out.below).later (Below.refl _ wr).drew)
              have HSD := Lib.hid ((HS3.out.later HY.out.below).later (Below.refl _ wr).drew)
              have HID := Lib.hid (((HI3.out.later HY.out.below).mono HY.out.below.size).later (Below.refl _ wr).drew)
              have HMD := Lib.hid (HSD.out.here HSM.out)
              obtain ⟨k0, k1, k2, k3, k4, k5, k6, k7, k8⟩ := HXD.out.cells
              obtain ⟨j0, j1, j2, j3, j4, j5, j6, j7, j8, j9, j10⟩ := HSD.out.cells
              have HC0 := Lib.hid (HXF9 HXD.out HSD.out)
              clear HY
              go_region_held3 (fun W => (W.cell? ⟨gx, 0, none⟩ = some (.int .i64 x.en) ∧ W.cell? ⟨gx, 1, none⟩ = some (.int .i64 x.tm) ∧ W.cell? ⟨gx, 2, none⟩ = some (.int .i64 x.tr) ∧ W.cell? ⟨gx, 3, none⟩ = some (.int .i64 x.bm) ∧ W.cell? ⟨gx, 4, none⟩ = some (.int .i64 x.br) ∧ W.cell? ⟨gx, 5, none⟩ = some (.slice A2.sa x.sats.length A2.sc) ∧ W.cell? ⟨gx, 6, none⟩ = some (.slice A2.ca x.cus.length A2.cc) ∧ W.cell? ⟨gx, 7, none⟩ = some (.slice A2.ka x.cost.length A2.kc) ∧ W.cell? ⟨gx, 8, none⟩ = some (.slice A2.ta x.time.length A2.tc)) ∧ (W.cell? ⟨w.heap.size, 0, none⟩ = some (.int .u8 s.e) ∧ W.cell? ⟨w.heap.size, 1, none⟩ = some (.int .u8 s.t) ∧ W.cell? ⟨w.heap.size, 2, none⟩ = some (.int .u8 s.tr) ∧ W.cell? ⟨w.heap.size, 3, none⟩ = some (.int .u8 s.b) ∧ W.cell? ⟨w.heap.size, 4, none⟩ = some (.int .u8 s.br) ∧ W.cell? ⟨w.heap.size, 5, none⟩ = some (.slice A.sa s.sats.length A.sc) ∧ W.cell? ⟨w.heap.size, 6, none⟩ = some (.slice A.wa s.whos.length A.wc) ∧ W.cell? ⟨w.heap.size, 7, none⟩ = some (.slice A.ca A.cn A.cc) ∧ W.cell? ⟨w.heap.size, 8, none⟩ = some (.slice A.ta A.tn A.tc) ∧ W.cell? ⟨w.heap.size, 9, none⟩ = some (.bool s.tight) ∧ W.cell? ⟨w.heap.size, 10, none⟩ = some (.bool s.loose)))
                (first | assumption | exact HC0.out | exact HC6.out | exact HC7.out | exact HC8.out)
                (first
                  | (go_at_call 12; refine (HMK.out _ HMD.out).mono ?_; rintro e w6 ⟨⟨A6, rfl, C6, D6, VK6, VT6, hown6⟩, hb6⟩; have HX6 := Lib.hid (HXD.out.later hb6); have HS6 := Lib.hid (HSD.out.later hb6); have HC6 := Lib.hid (HXF9 HX6.out HS6.out); have HI6 := Lib.hid ((HID.out.later hb6).mono hb6.size); have HJ6 := Lib.hid hown6.is_; clear hown6 hb6)
                  | (go_at_call 18; refine (lawSame_any A2 A6 x x _ HI6.out HJ6.out HLG.out).mono ?_; rw [sameI_refl]; rintro e w7 ⟨rfl, hb7⟩; have HX7 := Lib.hid (HX6.out.later hb7); have HS7 := Lib.hid (HS6.out.later hb7); have HC7 := Lib.hid (HXF9 HX7.out HS7.out); have HI7 := Lib.hid ((HI6.out.later hb7).mono hb7.size); clear hb7)
                  | (go_at_call 10; refine (check_any A2 x _ HI7.out HLG.out).mono ?_; rw [HOK.out]; rintro e w8 ⟨rfl, hb8⟩; have HX8 := Lib.hid (HX7.out.later hb8); have HS8 := Lib.hid (HS7.out.later hb8); have HC8 := Lib.hid (HXF9 HX8.out HS8.out); clear hb8))
              all_goals
                go_wp2_with fail
                go_ret
                exact ⟨rfl, HS8.out.below⟩
end Go.Proofs.Ytkapknfcepcijaa
