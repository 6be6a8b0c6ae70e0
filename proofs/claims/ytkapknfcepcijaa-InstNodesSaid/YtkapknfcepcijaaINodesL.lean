/- The walk of the law on Nodes, Sat, Customer, Load (of package inst). -/
import Derived.Test.YtkapknfcepcijaaIAwake
import Derived.Deep.RegionHeld3
import Derived.Deep.CutRange
import Derived.Test.YtkapknfcepcijaaIClo
namespace Go.Proofs.Ytkapknfcepcijaa
open Go.RowKit

theorem nodesW (A : InA) (x : Ins) (w : World) (h : x.sats.length + x.cus.length ≤ 1000) :
    Calls Try.prog 13 #[.agg (insC A x)] w fun e w' => e = .returned (.int .i64 (IntKind.i64.wrap (IntKind.i64.wrap (1 + (x.sats.length : Int)) + (x.cus.length : Int)))) ∧ Below w.heap.size w w' := by
  refine (nodesI A x w h).mono ?_
  rintro e w' ⟨rfl, hb⟩
  exact ⟨by rw [IntWalk.i64_in (1 + (x.sats.length : Int)) (by omega), IntWalk.i64_in (1 + (x.sats.length : Int) + (x.cus.length : Int)) (by omega)], hb⟩
theorem satW (A : InA) (x : Ins) (s : Int) (w : World) :
    Calls Try.prog 14 #[.agg (insC A x), .int .i64 s] w fun e w' => e = .returned (.int .i64 (IntKind.i64.wrap (1 + s))) ∧ Below w.heap.size w w' := by
  rw [IntWalk.i64_left]
  exact sat_any A x s w
theorem customerW (A : InA) (x : Ins) (s : Int) (w : World) (h : x.sats.length ≤ 1000) :
    Calls Try.prog 15 #[.agg (insC A x), .int .i64 s] w fun e w' => e = .returned (.int .i64 (IntKind.i64.wrap (IntKind.i64.wrap (1 + (x.sats.length : Int)) + s))) ∧ Below w.heap.size w w' := by
  rw [IntWalk.i64_left (_ + s), IntWalk.i64_in (1 + (x.sats.length : Int)) (by omega)]
  exact customer_any A x s w h
set_option maxHeartbeats 2000000 in
set_option maxRecDepth 100000 in
theorem instNodes_walk (A : InA) (x : Ins) (s c : Int) (w : World) (hi : IsIns w.heap.size w A x) :
    Calls Try.prog 5 #[.agg (insC A x), .int .i64 s, .int .i64 c] w fun e w' => e = .returned (.bool true) ∧ Below w.heap.size w w' := by
  have HG := Lib.hid (XBox.make (Below.refl _ w) A x)
  have HI := Lib.hid hi
  clear hi
  unfold insC at *
  cases hl : x.light with
  | false =>
    go_enter Try.func5, Try.ntmps5
    go_wp2_with (first
      | (go_at_call 8; refine (inst_awake _).mono ?_; rintro e w1 ⟨rfl, hb1⟩; have HX1 := Lib.hid (HG.out.later hb1); have HI1 := Lib.hid (HX1.out.pipesHere HI.out); obtain ⟨k0, k1, k2, k3, k4, k5, k6, k7, k8⟩ := HX1.out.cells; clear hb1)
      | (go_at_call 9; refine (light_any A x _ HI1.out).mono ?_; rw [hl]; rintro e w3 ⟨rfl, hb3⟩; have HX3 := Lib.hid (HX1.out.later hb3); clear hb3))
    go_ret
    exact ⟨rfl, HX3.out.below⟩
  | true =>
    obtain ⟨l1, l2, _, _, _, _⟩ := light_parts hl
    go_enter Try.func5, Try.ntmps5
    go_wp2_with (first
      | (go_at_call 8; refine (inst_awake _).mono ?_; rintro e w1 ⟨rfl, hb1⟩; have HX1 := Lib.hid (HG.out.later hb1); have HI1 := Lib.hid (HX1.out.pipesHere HI.out); obtain ⟨k0, k1, k2, k3, k4, k5, k6, k7, k8⟩ := HX1.out.cells; clear hb1)
      | (go_at_call 9; refine (light_any A x _ HI1.out).mono ?_; rw [hl]; rintro e w3 ⟨rfl, hb3⟩; clear k0 k1 k2 k3 k4 k5 k6 k7 k8; have HX3 := Lib.hid (HX1.out.later hb3); obtain ⟨k0, k1, k2, k3, k4, k5, k6, k7, k8⟩ := HX3.out.cells; clear hb3))
    clear k0 k1 k2 k3 k4 k5 k6 k7 k8 HX1 HI1 HG
    have HP := Lib.hid HI.out.cus
    have HXA := HX3
    go_loopw [7, 18] (fun sv iv wr => ∃ i : Nat, iv = .int .i64 (i : Int) ∧ sv = .int .i64 (loadTo x.cus i) ∧ i ≤ x.cus.length ∧ Hid (XBox w wr w.heap.size A x)) (fun _ iv _ => x.cus.length - (intOf iv).toNat)
    case atStart => exact ⟨0, rfl, rfl, Nat.zero_le _, HXA⟩
    case round =>
      obtain ⟨i, rfl, rfl, hi, HX⟩ := hrel
      clear HXA HX3
      by_cases hlt : i < x.cus.length
      · obtain ⟨b, off, y, hca, hb, hy, p0, p1, p2, p3⟩ := (HP.out.later HX.out.below).at_ hlt
        have HY : Hid (loadTo x.cus (i + 1) = wrap64 (loadTo x.cus i + y.1)) := Lib.hid (by rw [loadTo, getD_ofN hy])
        have HXN : Hid (XBox w (wr.alloc (.cells #[.int .i64 y.1, .int .i64 y.2.1, .int .i64 y.2.2.1, .int .i64 y.2.2.2] 44)) w.heap.size A x) := Lib.hid (HX.out.later ((Below.refl _ _).alloc (Nat.le_refl _) _))
        rw [hca]
        clear hy hca
        go_wp2_with fail
        go_roundw
        case rel => exact ⟨i + 1, by go_num, by rw [HY.out], by omega, HXN⟩
        case measure => simp [intOf]; omega
      · obtain rfl : i = x.cus.length := by omega
        clear hi hlt
        go_upto_region 11 with fail
        have HX2 := Lib.hid (HX.out.later (Below.refl _ wr).drew)
        obtain ⟨k0, k1, k2, k3, k4, k5, k6, k7, k8⟩ := HX2.out.cells
        go_region_held3 (fun W => W.cell? ⟨w.heap.size, 0, none⟩ = some (.int .i64 x.en) ∧ W.cell? ⟨w.heap.size, 1, none⟩ = some (.int .i64 x.tm) ∧ W.cell? ⟨w.heap.size, 2, none⟩ = some (.int .i64 x.tr) ∧ W.cell? ⟨w.heap.size, 3, none⟩ = some (.int .i64 x.bm) ∧ W.cell? ⟨w.heap.size, 4, none⟩ = some (.int .i64 x.br) ∧ W.cell? ⟨w.heap.size, 5, none⟩ = some (.slice A.sa x.sats.length A.sc) ∧ W.cell? ⟨w.heap.size, 6, none⟩ = some (.slice A.ca x.cus.length A.cc) ∧ W.cell? ⟨w.heap.size, 7, none⟩ = some (.slice A.ka x.cost.length A.kc) ∧ W.cell? ⟨w.heap.size, 8, none⟩ = some (.slice A.ta x.time.length A.tc))
          (first | assumption | exact HX2.out.cells | exact HX4.out.cells | exact HX5.out.cells | exact HX6.out.cells | exact HX7.out.cells)
          (first
            | (go_at_call 13; refine (nodesW A x _ (by omega)).mono ?_; rintro e w4 ⟨rfl, hb4⟩; have HX4 := Lib.hid (HX2.out.later hb4); clear hb4)
            | (go_at_call 14; refine (satW A x s _).mono ?_; rintro e w5 ⟨rfl, hb5⟩; have HX5 := Lib.hid (HX4.out.later hb5); clear hb5)
            | (go_at_call 15; refine (customerW A x c _ (by omega)).mono ?_; rintro e w6 ⟨rfl, hb6⟩; have HX6 := Lib.hid (HX5.out.later hb6); have HI6 := Lib.hid (HX6.out.pipesHere HI.out); clear hb6)
            | (go_at_call 16; refine (load_any A x _ (by omega) HI6.out).mono ?_; rintro e w7 ⟨rfl, hb7⟩; have HX7 := Lib.hid (HX6.out.later hb7); clear hb7))
        all_goals
          go_wp2_with fail
          go_ret
          exact ⟨rfl, HX7.out.below⟩
end Go.Proofs.Ytkapknfcepcijaa
