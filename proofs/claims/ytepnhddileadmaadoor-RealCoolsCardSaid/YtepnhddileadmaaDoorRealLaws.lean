/- The walks of layer 2's laws, but the one over lists. -/
import Derived.Test.YtepnhddileadmaaDoorRealAwake
import Derived.Test.YtepnhddileadmaaDoorRRealText
namespace Go.Proofs.YtepnhddileadmaaDoor
open Go.RowKit
open Ieee (double)

theorem float_of (x : Nat) (w : World) : Calls Tryd.prog 13 #[.int .u64 (x : Int)] w fun e w' => e = .returned (.float .f64 x) ∧ w = w' := by
  have h := frombits_run (x : Int)
  go_enter Tryd.func13, Tryd.ntmps13
  go_wp2
  go_ret
  exact ⟨rfl, rfl⟩

def Tab (w : World) : Prop := Lib.TabIs Tryd.prog w "internal/strconv.uint64pow10" .u64 Lib.pow10Tab
def Holds (w : World) (e : Ending) (w' : World) : Prop := e = .returned (.bool true) ∧ Below w.heap.size w w'

theorem realKinds_walk (x : Nat) (hx : x < 18446744073709551616) (w : World) (ht : Tab w) : Calls Tryd.prog 3 #[.int .u64 (x : Int)] w (Holds w) := by
  go_enter Tryd.func3, Tryd.ntmps3
  go_wp2_with fail
  refine (awake _ ht (pow_room ht)).mono ?_
  rintro e w1 ⟨rfl, hb1⟩
  go_wp2_with fail
  refine (float_of _ _).mono ?_
  rintro e w' ⟨rfl, rfl⟩
  go_wp2_with fail
  refine (of_any _ hx _).mono ?_
  rintro e w' ⟨rfl, rfl⟩
  go_wp2_with fail
  refine (float_of _ _).mono ?_
  rintro e w' ⟨rfl, rfl⟩
  go_wp2_with fail
  refine (rkind_any _ hx _).mono ?_
  rintro e w' ⟨rfl, rfl⟩
  go_wp2_with fail
  go_ret
  exact ⟨ret_bool (by simp), hb1⟩

theorem realLess_walk (x y : Nat) (hx : x < 18446744073709551616) (hy : y < 18446744073709551616) (w : World) (ht : Tab w) : Calls Tryd.prog 4 #[.int .u64 (x : Int), .int .u64 (y : Int)] w (Holds w) := by
  have hv : Hid (lessB x y = decide (placeV x < placeV y)) := Lib.hid rfl
  go_enter Tryd.func4, Tryd.ntmps4
  go_wp2_with fail
  refine (awake _ ht (pow_room ht)).mono ?_
  rintro e w1 ⟨rfl, hb1⟩
  go_wp2_with fail
  refine (float_of _ _).mono ?_
  rintro e w' ⟨rfl, rfl⟩
  go_wp2_with fail
  refine (float_of _ _).mono ?_
  rintro e w' ⟨rfl, rfl⟩
  go_wp2_with fail
  refine (less_any _ _ hx hy _).mono ?_
  rintro e w' ⟨rfl, rfl⟩
  go_wp2_with fail
  refine (float_of _ _).mono ?_
  rintro e w' ⟨rfl, rfl⟩
  go_wp2_with fail
  refine (rplace_any _ hx _).mono ?_
  rintro e w' ⟨rfl, rfl⟩
  go_wp2_with fail
  refine (float_of _ _).mono ?_
  rintro e w' ⟨rfl, rfl⟩
  go_wp2_with fail
  refine (rplace_any _ hy _).mono ?_
  rintro e w' ⟨rfl, rfl⟩
  go_wp2_with fail
  go_ret
  exact ⟨ret_bool (by rw [hv.out]; simp), hb1⟩

/-- Two answers of one operation are the same float. -/
theorem gives_same {o : Option Nat} {y z : Nat} (hy : Gives o y) (hz : Gives o z) : (placeV y == placeV z) = true := by
  cases o with
  | some r => obtain ⟨_, rfl⟩ := hy; obtain ⟨_, rfl⟩ := hz; simp
  | none =>
    have h1 := hy.2
    have h2 := hz.2
    simp [nanB] at h1 h2
    unfold placeV
    rw [if_pos h1, if_pos h2]; rfl

theorem realRatios_walk (a b : Int) (ha : Fits a) (hb : Fits b) (w : World) (ht : Tab w) : Calls Tryd.prog 6 #[.int .i64 a, .int .i64 b] w (Holds w) := by
  have f1 := int_fin a ha.1 ha.2
  have f2 := int_fin b hb.1 hb.2
  obtain ⟨u, hu⟩ := sub_some _ _ f1.2 f2.2 f1.1 f2.1
  have HU := Lib.hid hu
  have hs := run_some (op := .sub) hu
  clear hu ha hb f1 f2
  cases h1 : floatBits .quo .f64 (floatOfInt .f64 a) (floatOfInt .f64 b) with
  | some r =>
    cases h2 : floatBits .quo .f64 u (floatOfInt .f64 b) with
    | some r2 =>
      have q1 := run_some h1
      have q2 := run_some h2
      have g1 : Hid (Gives (double.div (floatOfInt .f64 a) (floatOfInt .f64 b)) r) := Lib.hid (by rw [show double.div (floatOfInt .f64 a) (floatOfInt .f64 b) = some r from h1]; exact gives_some (double_lt h1))
      have g2 : Hid (Gives (double.div u (floatOfInt .f64 b)) r2) := Lib.hid (by rw [show double.div u (floatOfInt .f64 b) = some r2 from h2]; exact gives_some (double_lt h2))
      clear h1 h2
      go_enter Tryd.func6, Tryd.ntmps6
      go_wp2_with fail
      refine (awake _ ht (pow_room ht)).mono ?_
      rintro e w1 ⟨rfl, hb1⟩
      go_wp2_with fail
      refine (ratio_any _ _ _).mono ?_
      rintro e w2 ⟨z, hz, rfl, hb2⟩
      go_wp2_with fail
      refine (rsame_any _ _ hz.1 g1.out.1 _).mono ?_
      rw [gives_same hz g1.out]
      rintro e w' ⟨rfl, rfl⟩
      go_wp2_with fail
      refine (gap_any _ _ u HU.out _).mono ?_
      rintro e w3 ⟨z3, hz3, rfl, hb3⟩
      go_wp2_with fail
      refine (rsame_any _ _ hz3.1 g2.out.1 _).mono ?_
      rw [gives_same hz3 g2.out]
      rintro e w' ⟨rfl, rfl⟩
      go_wp2_with fail
      go_ret
      exact ⟨rfl, hb1.trans ((hb2.mono hb1.size).trans (hb3.mono (Nat.le_trans hb1.size hb2.size)))⟩
    | none =>
      have q1 := run_some h1
      have q2 := fun W => run_float_nan (P := Tryd.prog) .quo 26 u (floatOfInt .f64 b) W (by simp) h2
      have g1 : Hid (Gives (double.div (floatOfInt .f64 a) (floatOfInt .f64 b)) r) := Lib.hid (by rw [show double.div (floatOfInt .f64 a) (floatOfInt .f64 b) = some r from h1]; exact gives_some (double_lt h1))
      have g2 : Hid (∀ W, Gives (double.div u (floatOfInt .f64 b)) (nanCut u (floatOfInt .f64 b) W)) := Lib.hid (by rw [show double.div u (floatOfInt .f64 b) = none from h2]; exact fun W => nanCut_gives _ _ W)
      clear h1 h2
      go_enter Tryd.func6, Tryd.ntmps6
      go_wp2_with fail
      refine (awake _ ht (pow_room ht)).mono ?_
      rintro e w1 ⟨rfl, hb1⟩
      go_wp2_with fail
      refine (ratio_any _ _ _).mono ?_
      rintro e w2 ⟨z, hz, rfl, hb2⟩
      go_wp2_with fail
      refine (rsame_any _ _ hz.1 g1.out.1 _).mono ?_
      rw [gives_same hz g1.out]
      rintro e w' ⟨rfl, rfl⟩
      go_wp2_with fail
      refine (gap_any _ _ u HU.out _).mono ?_
      rintro e w3 ⟨z3, hz3, rfl, hb3⟩
      go_wp2_with fail
      refine (rsame_any _ _ hz3.1 (g2.out _).1 _).mono ?_
      rw [gives_same hz3 (g2.out _)]
      rintro e w' ⟨rfl, rfl⟩
      go_wp2_with fail
      go_ret
      exact ⟨rfl, (hb1.trans ((hb2.mono hb1.size).trans (hb3.mono (Nat.le_trans hb1.size hb2.size)))).drew⟩
  | none =>
    cases h2 : floatBits .quo .f64 u (floatOfInt .f64 b) with
    | some r2 =>
      have q1 := fun W => run_float_nan (P := Tryd.prog) .quo 26 (floatOfInt .f64 a) (floatOfInt .f64 b) W (by simp) h1
      have q2 := run_some h2
      have g1 : Hid (∀ W, Gives (double.div (floatOfInt .f64 a) (floatOfInt .f64 b)) (nanCut (floatOfInt .f64 a) (floatOfInt .f64 b) W)) := Lib.hid (by rw [show double.div (floatOfInt .f64 a) (floatOfInt .f64 b) = none from h1]; exact fun W => nanCut_gives _ _ W)
      have g2 : Hid (Gives (double.div u (floatOfInt .f64 b)) r2) := Lib.hid (by rw [show double.div u (floatOfInt .f64 b) = some r2 from h2]; exact gives_some (double_lt h2))
      clear h1 h2
      go_enter Tryd.func6, Tryd.ntmps6
      go_wp2_with fail
      refine (awake _ ht (pow_room ht)).mono ?_
      rintro e w1 ⟨rfl, hb1⟩
      go_wp2_with fail
      refine (ratio_any _ _ _).mono ?_
      rintro e w2 ⟨z, hz, rfl, hb2⟩
      go_wp2_with fail
      refine (rsame_any _ _ hz.1 (g1.out _).1 _).mono ?_
      rw [gives_same hz (g1.out _)]
      rintro e w' ⟨rfl, rfl⟩
      go_wp2_with fail
      refine (gap_any _ _ u HU.out _).mono ?_
      rintro e w3 ⟨z3, hz3, rfl, hb3⟩
      go_wp2_with fail
      refine (rsame_any _ _ hz3.1 g2.out.1 _).mono ?_
      rw [gives_same hz3 g2.out]
      rintro e w' ⟨rfl, rfl⟩
      go_wp2_with fail
      go_ret
      exact ⟨rfl, hb1.trans (((hb2.mono hb1.size).drew).trans (hb3.mono (Nat.le_trans hb1.size hb2.size)))⟩
    | none =>
      have q1 := fun W => run_float_nan (P := Tryd.prog) .quo 26 (floatOfInt .f64 a) (floatOfInt .f64 b) W (by simp) h1
      have q2 := fun W => run_float_nan (P := Tryd.prog) .quo 26 u (floatOfInt .f64 b) W (by simp) h2
      have g1 : Hid (∀ W, Gives (double.div (floatOfInt .f64 a) (floatOfInt .f64 b)) (nanCut (floatOfInt .f64 a) (floatOfInt .f64 b) W)) := Lib.hid (by rw [show double.div (floatOfInt .f64 a) (floatOfInt .f64 b) = none from h1]; exact fun W => nanCut_gives _ _ W)
      have g2 : Hid (∀ W, Gives (double.div u (floatOfInt .f64 b)) (nanCut u (floatOfInt .f64 b) W)) := Lib.hid (by rw [show double.div u (floatOfInt .f64 b) = none from h2]; exact fun W => nanCut_gives _ _ W)
      clear h1 h2
      go_enter Tryd.func6, Tryd.ntmps6
      go_wp2_with fail
      refine (awake _ ht (pow_room ht)).mono ?_
      rintro e w1 ⟨rfl, hb1⟩
      go_wp2_with fail
      refine (ratio_any _ _ _).mono ?_
      rintro e w2 ⟨z, hz, rfl, hb2⟩
      go_wp2_with fail
      refine (rsame_any _ _ hz.1 (g1.out _).1 _).mono ?_
      rw [gives_same hz (g1.out _)]
      rintro e w' ⟨rfl, rfl⟩
      go_wp2_with fail
      refine (gap_any _ _ u HU.out _).mono ?_
      rintro e w3 ⟨z3, hz3, rfl, hb3⟩
      go_wp2_with fail
      refine (rsame_any _ _ hz3.1 (g2.out _).1 _).mono ?_
      rw [gives_same hz3 (g2.out _)]
      rintro e w' ⟨rfl, rfl⟩
      go_wp2_with fail
      go_ret
      exact ⟨rfl, (hb1.trans (((hb2.mono hb1.size).drew).trans (hb3.mono (Nat.le_trans hb1.size hb2.size)))).drew⟩

theorem realCools_walk (x y : Nat) (w : World) (ht : Tab w) : Calls Tryd.prog 7 #[.int .u64 (x : Int), .int .u64 (y : Int)] w (Holds w) := by
  cases h : floatBits .mul .f64 x y with
  | some r =>
    have q1 := run_some h
    have g1 : Hid (Gives (double.mul x y) r) := Lib.hid (by rw [show double.mul x y = some r from h]; exact gives_some (double_lt h))
    clear h
    go_enter Tryd.func7, Tryd.ntmps7
    go_wp2_with fail
    refine (awake _ ht (pow_room ht)).mono ?_
    rintro e w1 ⟨rfl, hb1⟩
    go_wp2_with fail
    refine (float_of _ _).mono ?_
    rintro e w' ⟨rfl, rfl⟩
    go_wp2_with fail
    refine (float_of _ _).mono ?_
    rintro e w' ⟨rfl, rfl⟩
    go_wp2_with fail
    refine (cool_any _ _ _).mono ?_
    rintro e w2 ⟨z, hz, rfl, hb2⟩
    go_wp2_with fail
    refine (float_of _ _).mono ?_
    rintro e w' ⟨rfl, rfl⟩
    go_wp2_with fail
    refine (float_of _ _).mono ?_
    rintro e w' ⟨rfl, rfl⟩
    go_wp2_with fail
    refine (rsame_any _ _ hz.1 g1.out.1 _).mono ?_
    rw [gives_same hz g1.out]
    rintro e w' ⟨rfl, rfl⟩
    go_wp2_with fail
    go_ret
    exact ⟨rfl, hb1.trans (hb2.mono hb1.size)⟩
  | none =>
    have q1 := fun W => run_float_nan (P := Tryd.prog) .mul 26 x y W (by simp) h
    have g1 : Hid (∀ W, Gives (double.mul x y) (nanCut x y W)) := Lib.hid (by rw [show double.mul x y = none from h]; exact fun W => nanCut_gives _ _ W)
    clear h
    go_enter Tryd.func7, Tryd.ntmps7
    go_wp2_with fail
    refine (awake _ ht (pow_room ht)).mono ?_
    rintro e w1 ⟨rfl, hb1⟩
    go_wp2_with fail
    refine (float_of _ _).mono ?_
    rintro e w' ⟨rfl, rfl⟩
    go_wp2_with fail
    refine (float_of _ _).mono ?_
    rintro e w' ⟨rfl, rfl⟩
    go_wp2_with fail
    refine (cool_any _ _ _).mono ?_
    rintro e w2 ⟨z, hz, rfl, hb2⟩
    go_wp2_with fail
    refine (float_of _ _).mono ?_
    rintro e w' ⟨rfl, rfl⟩
    go_wp2_with fail
    refine (float_of _ _).mono ?_
    rintro e w' ⟨rfl, rfl⟩
    go_wp2_with fail
    refine (rsame_any _ _ hz.1 (g1.out _).1 _).mono ?_
    rw [gives_same hz (g1.out _)]
    rintro e w' ⟨rfl, rfl⟩
    go_wp2_with fail
    go_ret
    exact ⟨rfl, (hb1.trans (hb2.mono hb1.size)).drew⟩

theorem realAccepts_walk (change : Int) (heat draw : Nat) (hc : Fits change) (hh : heat < 18446744073709551616) (hd : draw < 4294967296) (w : World) (ht : Tab w) : Calls Tryd.prog 8 #[.int .i64 change, .int .u64 (heat : Int), .int .u32 (draw : Int)] w (Holds w) := by
  have HC := Lib.hid hc; clear hc
  go_enter Tryd.func8, Tryd.ntmps8
  go_wp2_with fail
  refine (awake _ ht (pow_room ht)).mono ?_
  rintro e w1 ⟨rfl, hb1⟩
  go_wp2_with fail
  refine (float_of _ _).mono ?_
  rintro e w' ⟨rfl, rfl⟩
  go_wp2_with fail
  refine (accept_any _ _ _ HC.out hh hd _).mono ?_
  rintro e w2 ⟨rfl, hb2⟩
  go_wp2_with fail
  refine (float_of _ _).mono ?_
  rintro e w' ⟨rfl, rfl⟩
  go_wp2_with fail
  refine (raccept_any _ _ _ HC.out hh hd _).mono ?_
  rintro e w3 ⟨rfl, hb3⟩
  go_wp2_with fail
  go_ret
  exact ⟨ret_bool (by simp), hb1.trans ((hb2.mono hb1.size).trans (hb3.mono (Nat.le_trans hb1.size hb2.size)))⟩

theorem realTexts_walk (x : Nat) (hx : x < 18446744073709551616) (w : World) (ht : Tab w) : Calls Tryd.prog 10 #[.int .u64 (x : Int)] w (Holds w) := by
  go_enter Tryd.func10, Tryd.ntmps10
  go_wp2_with fail
  refine (awake _ ht (pow_room ht)).mono ?_
  rintro e w1 ⟨rfl, hb1⟩
  go_wp2_with fail
  refine (float_of _ _).mono ?_
  rintro e w' ⟨rfl, rfl⟩
  go_wp2_with fail
  refine (real_text_any _ hx _ (tab_below hb1 (pow_room ht) ht)).mono ?_
  rintro e w2 ⟨rfl, hb2⟩
  go_wp2_with fail
  refine (float_of _ _).mono ?_
  rintro e w' ⟨rfl, rfl⟩
  go_wp2_with fail
  refine (rtext_float_any _ hx _).mono ?_
  rintro e w' ⟨rfl, rfl⟩
  go_wp2_with fail
  go_ret
  exact ⟨ret_bool (by simp), hb1.trans (hb2.mono hb1.size)⟩
end Go.Proofs.YtepnhddileadmaaDoor
