/- The walk of the law: what is accepted is accepted at a lesser change, and by a lesser draw. -/
import Derived.Test.YtepnhddileadmaaDoorRealLaws
namespace Go.Proofs.YtepnhddileadmaaDoor
open Go.RowKit

theorem realFairer_walk (change less : Int) (heat draw low : Nat) (hc : Fits change) (hl : Fits less) (hh : heat < 18446744073709551616) (hd : draw < 4294967296) (hw : low < 4294967296) (w : World) (ht : Tab w) : Calls Tryd.prog 9 #[.int .i64 change, .int .i64 less, .int .u64 (heat : Int), .int .u32 (draw : Int), .int .u32 (low : Int)] w (Holds w) := by
  have HC := Lib.hid hc; clear hc
  have HL := Lib.hid hl; clear hl
  by_cases c1 : change < less
  · have t1 : decide (change < less) = true := decide_eq_true c1
    clear c1
    go_enter Tryd.func9, Tryd.ntmps9
    go_wp2_with fail
    refine (awake _ ht (pow_room ht)).mono ?_
    rintro e w1 ⟨rfl, hb1⟩
    go_wp2_with fail
    go_ret
    exact ⟨rfl, hb1⟩
  · have t1 : decide (change < less) = false := decide_eq_false c1
    by_cases c2 : draw < low
    · have t2 : decide (draw < low) = true := decide_eq_true c2
      clear c1 c2
      go_enter Tryd.func9, Tryd.ntmps9
      go_wp2_with fail
      refine (awake _ ht (pow_room ht)).mono ?_
      rintro e w1 ⟨rfl, hb1⟩
      go_wp2_with fail
      go_ret
      exact ⟨rfl, hb1⟩
    · have t2 : decide (draw < low) = false := decide_eq_false c2
      by_cases c3 : low = 0
      · have t3 : ((low : Int) == 0) = true := nat_eq (k := 0) c3
        clear c1 c2 c3
        go_enter Tryd.func9, Tryd.ntmps9
        go_wp2_with fail
        refine (awake _ ht (pow_room ht)).mono ?_
        rintro e w1 ⟨rfl, hb1⟩
        go_wp2_with fail
        go_ret
        exact ⟨rfl, hb1⟩
      · have t3 : ((low : Int) == 0) = false := nat_ne (k := 0) c3
        have hm := acceptB_mono change less heat draw low (by omega) (by omega)
        cases h : acceptB change heat draw with
        | true =>
          have h2 := hm h
          clear hm c1 c2 c3
          go_enter Tryd.func9, Tryd.ntmps9
          go_wp2_with fail
          refine (awake _ ht (pow_room ht)).mono ?_
          rintro e w1 ⟨rfl, hb1⟩
          go_wp2_with fail
          refine (float_of _ _).mono ?_
          rintro e w' ⟨rfl, rfl⟩
          go_wp2_with fail
          refine (accept_any _ _ _ HC.out hh hd _).mono ?_
          rintro e w2 ⟨rfl, hb2⟩
          go_wp2_with fail
          refine (float_of _ _).mono ?_
          rintro e w' ⟨rfl, rfl⟩
          go_wp2_with fail
          refine (accept_any _ _ _ HL.out hh hw _).mono ?_
          rintro e w3 ⟨rfl, hb3⟩
          go_wp2_with fail
          go_ret
          exact ⟨rfl, hb1.trans ((hb2.mono hb1.size).trans (hb3.mono (Nat.le_trans hb1.size hb2.size)))⟩
        | false =>
          clear hm c1 c2 c3
          go_enter Tryd.func9, Tryd.ntmps9
          go_wp2_with fail
          refine (awake _ ht (pow_room ht)).mono ?_
          rintro e w1 ⟨rfl, hb1⟩
          go_wp2_with fail
          refine (float_of _ _).mono ?_
          rintro e w' ⟨rfl, rfl⟩
          go_wp2_with fail
          refine (accept_any _ _ _ HC.out hh hd _).mono ?_
          rintro e w2 ⟨rfl, hb2⟩
          go_wp2_with fail
          go_ret
          exact ⟨rfl, hb1.trans (hb2.mono hb1.size)⟩
end Go.Proofs.YtepnhddileadmaaDoor
