/- The walk of the law on Check (of package inst). -/
import Derived.Test.YtkapknfcepcijaaIAwake
import Derived.Test.YtkapknfcepcijaaICode
import Derived.Test.YtkapknfcepcijaaIRange
import Derived.Deep.RegionHeld3
import Derived.Deep.RegionWith
namespace Go.Proofs.Ytkapknfcepcijaa
open Go.RowKit

set_option maxHeartbeats 2000000 in
set_option maxRecDepth 100000 in
theorem instChecks_walk (A : InA) (x : Ins) (w : World) (hi : IsIns w.heap.size w A x) :
    Calls Try.prog 3 #[.agg (insC A x)] w fun e w' => e = .returned (.bool true) ∧ Below w.heap.size w w' := by
  have HG := Lib.hid (XBox.make (Below.refl _ w) A x)
  have HI := Lib.hid hi
  clear hi
  unfold insC at *
  cases hl : x.light with
  | false =>
    go_enter Try.func3, Try.ntmps3
    go_wp2_with (go_at_call 8; refine (inst_awake _).mono ?_; rintro e w1 ⟨rfl, hb1⟩; have HX1 := Lib.hid (HG.out.later hb1); clear hb1)
    have HX2 := Lib.hid (HX1.out.later (Below.refl _ w1).drew)
    have HI2 := Lib.hid (HX2.out.pipesHere HI.out)
    obtain ⟨k0, k1, k2, k3, k4, k5, k6, k7, k8⟩ := HX2.out.cells
    go_region_with (go_at_call 9; refine (light_any A x _ HI2.out).mono ?_; rw [hl]; rintro e w3 ⟨rfl, hb3⟩; have HX3 := Lib.hid (HX2.out.later hb3); clear hb3)
    all_goals
      go_wp2_with fail
      go_ret
      exact ⟨rfl, HX3.out.below⟩
  | true =>
    go_enter Try.func3, Try.ntmps3
    go_wp2_with (go_at_call 8; refine (inst_awake _).mono ?_; rintro e w1 ⟨rfl, hb1⟩; have HX1 := Lib.hid (HG.out.later hb1); clear hb1)
    have HX2 := Lib.hid (HX1.out.later (Below.refl _ w1).drew)
    have HI2 := Lib.hid (HX2.out.pipesHere HI.out)
    obtain ⟨k0, k1, k2, k3, k4, k5, k6, k7, k8⟩ := HX2.out.cells
    go_region_held3 (fun W => W.cell? ⟨w.heap.size, 0, none⟩ = some (.int .i64 x.en) ∧ W.cell? ⟨w.heap.size, 1, none⟩ = some (.int .i64 x.tm) ∧ W.cell? ⟨w.heap.size, 2, none⟩ = some (.int .i64 x.tr) ∧ W.cell? ⟨w.heap.size, 3, none⟩ = some (.int .i64 x.bm) ∧ W.cell? ⟨w.heap.size, 4, none⟩ = some (.int .i64 x.br) ∧ W.cell? ⟨w.heap.size, 5, none⟩ = some (.slice A.sa x.sats.length A.sc) ∧ W.cell? ⟨w.heap.size, 6, none⟩ = some (.slice A.ca x.cus.length A.cc) ∧ W.cell? ⟨w.heap.size, 7, none⟩ = some (.slice A.ka x.cost.length A.kc) ∧ W.cell? ⟨w.heap.size, 8, none⟩ = some (.slice A.ta x.time.length A.tc))
      (first | assumption | exact HX2.out.cells | exact HX3.out.cells | exact HX4.out.cells | exact HX5.out.cells)
      (first
        | (go_at_call 9; refine (light_any A x _ HI2.out).mono ?_; rw [hl]; rintro e w3 ⟨rfl, hb3⟩; have HX3 := Lib.hid (HX2.out.later hb3); have HI3 := Lib.hid (HX3.out.pipesHere HI.out); clear hb3)
        | (go_at_call 10; refine (check_any A x _ HI3.out hl).mono ?_; rintro e w4 ⟨rfl, hb4⟩; have HX4 := Lib.hid (HX3.out.later hb4); have HI4 := Lib.hid (HX4.out.pipesHere HI.out); clear hb4)
        | (go_at_call 11; refine (code_any A x _ HI4.out hl).mono ?_; rintro e w5 ⟨rfl, hb5⟩; have HX5 := Lib.hid (HX4.out.later hb5); clear hb5))
    all_goals
      go_wp2_with fail
      go_ret
      exact ⟨rfl, HX5.out.below⟩
end Go.Proofs.Ytkapknfcepcijaa
