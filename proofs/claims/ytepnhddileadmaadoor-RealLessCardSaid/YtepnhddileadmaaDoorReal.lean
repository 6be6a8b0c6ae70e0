/- What Less, Ratio, Gap, Cool and Accept of package real answer, and the reference's Accept. -/
import Derived.Test.YtepnhddileadmaaDoorOf
import Derived.Test.YtepnhddileadmaaDoorRKind
import Derived.Test.YtepnhddileadmaaDoorFloatLaws
namespace Go.Proofs.YtepnhddileadmaaDoor
open Go.RowKit
open Ieee (double)

theorem ibne_false {x y : Int} (h : x = y) : (x != y) = false := by simp [h]
theorem ibne_true {x y : Int} (h : ¬ x = y) : (x != y) = true := by simp [h]

theorem less_any (b c : Nat) (hb : b < 18446744073709551616) (hc : c < 18446744073709551616) (w : World) : Calls Tryd.prog 15 #[.float .f64 b, .float .f64 c] w fun e w' => e = .returned (.bool (lessB b c)) ∧ w = w' := by
  by_cases h : kindN b = kindN c
  · have hv := Lib.hid (less_same b c hb hc h)
    have h1 := ibne_false h
    clear h
    go_enter Tryd.func15, Tryd.ntmps15
    go_wp2_with fail
    refine (of_any _ hb _).mono ?_
    rintro e w' ⟨rfl, rfl⟩
    go_wp2_with fail
    refine (of_any _ hc _).mono ?_
    rintro e w' ⟨rfl, rfl⟩
    go_wp2_with fail
    go_ret
    exact ⟨ret_bool hv.out, rfl⟩
  · have hv := Lib.hid (less_kinds b c h)
    have h1 := ibne_true h
    clear h
    go_enter Tryd.func15, Tryd.ntmps15
    go_wp2_with fail
    refine (of_any _ hb _).mono ?_
    rintro e w' ⟨rfl, rfl⟩
    go_wp2_with fail
    refine (of_any _ hc _).mono ?_
    rintro e w' ⟨rfl, rfl⟩
    go_wp2_with fail
    go_ret
    exact ⟨ret_bool hv.out, rfl⟩

/-! ### Operations whose answer may be no number -/
/-- An operation's answer: the word that it gives, or any that is no number. -/
def Gives (o : Option Nat) (z : Nat) : Prop := z < 18446744073709551616 ∧ match o with
  | some r => z = r
  | none => nanB z = true
def RetGives (o : Option Nat) (w : World) (e : Ending) (w' : World) : Prop := ∃ z, Gives o z ∧ e = .returned (.float .f64 z) ∧ Below w.heap.size w w'
theorem gives_some {r : Nat} (h : r < 18446744073709551616) : Gives (some r) r := ⟨h, rfl⟩
def nanCut (x y : Nat) (w : World) : Nat := (Question.nanBits .f64 x y).cut (w.tape w.drawn (Question.nanBits .f64 x y))
theorem nanCut_gives (x y : Nat) (w : World) : Gives none (nanCut x y w) := by
  unfold nanCut Question.cut Gives
  generalize w.tape w.drawn (Question.nanBits .f64 x y) = t
  simp only
  have h2 : (2 : Nat) ^ 63 = 9223372036854775808 := by decide
  have h3 : (2 : Nat) ^ 52 - 1 = 4503599627370495 := by decide
  rw [h2, h3]
  have p1 : t % 2 < 2 := Nat.mod_lt _ (by omega)
  have p2 : t / 2 % 4503599627370495 < 4503599627370495 := Nat.mod_lt _ (by omega)
  generalize t % 2 = p at *
  generalize t / 2 % 4503599627370495 = q at *
  unfold nanB rung
  rw [decide_eq_true_eq]
  omega
theorem run_float_nan {P : Program} (op : BinOp) (t : TypeId) (x y : Nat) (w : World) (ho : op = .add ∨ op = .sub ∨ op = .mul ∨ op = .quo) (h : floatBits op .f64 x y = none) : (binOp op t (.float .f64 x) (.float .f64 y)).run P w = .ok (.float .f64 (nanCut x y w)) w.drew := by
  rcases ho with rfl | rfl | rfl | rfl
  all_goals
    unfold floatBits at h
    simp only at h
    simp [binOp, Op.floatArith, h, nanCut, choose, Sem.run, Question.forced]
theorem double_lt {op : BinOp} {x y r : Nat} (h : floatBits op .f64 x y = some r) : r < 18446744073709551616 := by
  have := floatBits_wf h
  simpa [Lit.wf] using this
theorem int_lt (n : Int) : floatOfInt .f64 n < 18446744073709551616 := by
  have := floatOfInt_wf .f64 n
  simpa [Lit.wf] using this

theorem run_some {op : BinOp} {x y r : Nat} (h : floatBits op .f64 x y = some r) (W : World) : (binOp op 26 (.float .f64 x) (.float .f64 y)).run Tryd.prog W = .ok (.float .f64 r) W := run_float_arith W op 26 .f64 x y r h

theorem ratio_any (a b : Int) (w : World) : Calls Tryd.prog 19 #[.int .i64 a, .int .i64 b] w (RetGives (double.div (floatOfInt .f64 a) (floatOfInt .f64 b)) w) := by
  cases h : floatBits .quo .f64 (floatOfInt .f64 a) (floatOfInt .f64 b) with
  | some r =>
    have h1 := run_some h
    have hv : Hid (Gives (double.div (floatOfInt .f64 a) (floatOfInt .f64 b)) r) := Lib.hid (by
      rw [show double.div (floatOfInt .f64 a) (floatOfInt .f64 b) = some r from h]; exact gives_some (double_lt h))
    clear h
    go_enter Tryd.func19, Tryd.ntmps19
    go_wp2_with fail
    go_ret
    exact ⟨_, hv.out, rfl, Below.refl _ _⟩
  | none =>
    have h1 := fun W => run_float_nan (P := Tryd.prog) .quo 26 (floatOfInt .f64 a) (floatOfInt .f64 b) W (by simp) h
    have hv : Hid (∀ W, Gives (double.div (floatOfInt .f64 a) (floatOfInt .f64 b)) (nanCut (floatOfInt .f64 a) (floatOfInt .f64 b) W)) := Lib.hid (by
      rw [show double.div (floatOfInt .f64 a) (floatOfInt .f64 b) = none from h]; exact fun W => nanCut_gives _ _ W)
    clear h
    go_enter Tryd.func19, Tryd.ntmps19
    go_wp2_with fail
    go_ret
    exact ⟨_, hv.out _, rfl, (Below.refl _ _).drew⟩

/-- The answer that the operation gives, in a world. -/
theorem gap_any (a b : Int) (u : Nat) (hu : double.sub (floatOfInt .f64 a) (floatOfInt .f64 b) = some u) (w : World) : Calls Tryd.prog 20 #[.int .i64 a, .int .i64 b] w (RetGives (double.div u (floatOfInt .f64 b)) w) := by
  have h0 := run_some (op := .sub) hu
  have HU := Lib.hid hu
  clear hu
  cases h : floatBits .quo .f64 u (floatOfInt .f64 b) with
  | some r =>
    have h1 := run_some h
    have hv : Hid (Gives (double.div u (floatOfInt .f64 b)) r) := Lib.hid (by
      rw [show double.div u (floatOfInt .f64 b) = some r from h]; exact gives_some (double_lt h))
    clear h
    go_enter Tryd.func20, Tryd.ntmps20
    go_wp2_with fail
    go_ret
    exact ⟨_, hv.out, rfl, Below.refl _ _⟩
  | none =>
    have h1 := fun W => run_float_nan (P := Tryd.prog) .quo 26 u (floatOfInt .f64 b) W (by simp) h
    have hv : Hid (∀ W, Gives (double.div u (floatOfInt .f64 b)) (nanCut u (floatOfInt .f64 b) W)) := Lib.hid (by
      rw [show double.div u (floatOfInt .f64 b) = none from h]; exact fun W => nanCut_gives _ _ W)
    clear h
    go_enter Tryd.func20, Tryd.ntmps20
    go_wp2_with fail
    go_ret
    exact ⟨_, hv.out _, rfl, (Below.refl _ _).drew⟩
theorem cool_any (x y : Nat) (w : World) : Calls Tryd.prog 21 #[.float .f64 x, .float .f64 y] w (RetGives (double.mul x y) w) := by
  cases h : floatBits .mul .f64 x y with
  | some r =>
    have h1 := run_some h
    have hv : Hid (Gives (double.mul x y) r) := Lib.hid (by
      rw [show double.mul x y = some r from h]; exact gives_some (double_lt h))
    clear h
    go_enter Tryd.func21, Tryd.ntmps21
    go_wp2_with fail
    go_ret
    exact ⟨_, hv.out, rfl, Below.refl _ _⟩
  | none =>
    have h1 := fun W => run_float_nan (P := Tryd.prog) .mul 26 x y W (by simp) h
    have hv : Hid (∀ W, Gives (double.mul x y) (nanCut x y W)) := Lib.hid (by
      rw [show double.mul x y = none from h]; exact fun W => nanCut_gives _ _ W)
    clear h
    go_enter Tryd.func21, Tryd.ntmps21
    go_wp2_with fail
    go_ret
    exact ⟨_, hv.out _, rfl, (Below.refl _ _).drew⟩

/-! ### Accept -/
theorem nan_not {b : Nat} (h : b ≤ 9218868437227405312) : nanB b = false := by
  unfold nanB; rw [rung_pos (by omega)]; exact decide_eq_false (by omega)
theorem nan_is {b : Nat} (h : nanB b = true) (hb : b < 18446744073709551616) (c : Nat) (hc : c < 18446744073709551616) : (FloatKind.f64.format.order b c == some Ordering.lt) = false := by
  rw [format_double, order_nan b c hb hc (.inl h)]; rfl
/-- What is known ahead of the walk where all turns on the draw. -/
structure Drawn (change : Int) (heat draw : Nat) (q s : Nat) : Prop where
  quo : floatBits .quo .f64 (floatOfInt .f64 change) heat = some q
  sum : floatBits .add .f64 4607182418800017408 q = some s
  ok : acceptB change heat draw = match floatBits .mul .f64 (floatOfInt .f64 (draw : Int)) s with
    | some z => decide (z < 4751297606875873280)
    | none => false
  le : ∀ z, floatBits .mul .f64 (floatOfInt .f64 (draw : Int)) s = some z → z ≤ 9218868437227405312
theorem drawn_of (change : Int) (heat draw : Nat) (hc : 0 < change) (hc2 : change ≤ 9223372036854775807) (hk : kindN heat = 4) (hd : draw < 4294967296) : ∃ q s, Drawn change heat draw q s := by
  obtain ⟨n, rfl⟩ : ∃ n : Nat, change = n := ⟨change.toNat, by omega⟩
  have hh := kind_four hk
  have r1 := ofInt_range n (by omega) (by omega)
  have r2 := ofInt_mono draw 9223372036854775807 (by omega)
  rw [of_most] at r2
  have e1 : double.div (rungOf n 0) heat = some (divR (rungOf n 0) heat) := div_pos _ _ (by omega) hh.2 hh.1
  have e2 := add_one (divR (rungOf n 0) heat) (divR_le _ _)
  have e3 := mul_prod (rungOf draw 0) (sumOne (divR (rungOf n 0) heat)) (by omega) (sumOne_le _)
  refine ⟨divR (rungOf n 0) heat, sumOne (divR (rungOf n 0) heat), ?_, e2, ?_, ?_⟩
  · rw [ofInt_pos]; exact e1
  · rw [ofInt_pos]
    unfold acceptB
    rw [if_neg (by omega), if_pos ⟨hk, hc⟩]
    unfold acceptPos
    rw [show floatBits .mul .f64 (rungOf draw 0) (sumOne (divR (rungOf n 0) heat)) = _ from e3]
    rfl
  · intro z hz
    rw [ofInt_pos] at hz
    rw [show floatBits .mul .f64 (rungOf draw 0) (sumOne (divR (rungOf n 0) heat)) = _ from e3] at hz
    exact prodO_le hz

theorem accept_any (change : Int) (heat draw : Nat) (hc : Fits change) (hh : heat < 18446744073709551616) (hd : draw < 4294967296) (w : World) : Calls Tryd.prog 22 #[.int .i64 change, .float .f64 heat, .int .u32 (draw : Int)] w fun e w' => e = .returned (.bool (acceptB change heat draw)) ∧ Below w.heap.size w w' := by
  unfold Fits at hc
  obtain ⟨c1, c2⟩ := hc
  by_cases k5 : kindN heat = 5
  · have hv : Hid (acceptB change heat draw = true) := Lib.hid (by unfold acceptB; rw [if_pos k5])
    have t5 : (kindN heat == 5) = true := by simp [k5]
    clear k5
    go_enter Tryd.func22, Tryd.ntmps22
    go_wp2_with (go_at_call 12; refine (of_any _ hh _).mono ?_; rintro e w' ⟨rfl, rfl⟩)
    go_ret
    exact ⟨ret_bool hv.out.symm, Below.refl _ _⟩
  · have t5 : (kindN heat == 5) = false := by simp [k5]
    by_cases k4 : kindN heat = 4
    · have t4 : (kindN heat == 4) = true := by simp [k4]
      by_cases hp : 0 < change
      · obtain ⟨q, s, D⟩ := drawn_of change heat draw hp c2 k4 hd
        have h1 := run_some D.quo
        have h2 := run_some D.sum
        have ho := Lib.hid D.ok
        have hle := Lib.hid D.le
        have tp : decide (0 < change) = true := by simp [hp]
        clear D k4 k5
        cases h : floatBits .mul .f64 (floatOfInt .f64 (draw : Int)) s with
        | some z =>
          have h3 := run_some h
          have hz := hle.out z h
          have hv : Hid ((FloatKind.f64.format.order z 4751297606875873280 == some Ordering.lt) = acceptB change heat draw) := Lib.hid (by
            rw [ho.out, h, lt_word z _ (by omega) (by omega) (nan_not hz) (by decide), key_pos (by omega), show key 4751297606875873280 = 4751297606875873280 by decide]
            simp only
            rw [decide_eq_decide]; omega)
          clear h
          go_enter Tryd.func22, Tryd.ntmps22
          go_wp2_with (go_at_call 12; refine (of_any _ hh _).mono ?_; rintro e w' ⟨rfl, rfl⟩)
          go_ret
          exact ⟨ret_bool hv.out, Below.refl _ _⟩
        | none =>
          have h3 := fun W => run_float_nan (P := Tryd.prog) .mul 26 (floatOfInt .f64 (draw : Int)) s W (by simp) h
          have hv : Hid (acceptB change heat draw = false) := Lib.hid (by rw [ho.out, h])
          have hn : Hid (∀ W, (FloatKind.f64.format.order (nanCut (floatOfInt .f64 (draw : Int)) s W) 4751297606875873280 == some Ordering.lt) = false) := Lib.hid (fun W =>
            nan_is (nanCut_gives _ _ W).2 (nanCut_gives _ _ W).1 _ (by omega))
          clear h
          go_enter Tryd.func22, Tryd.ntmps22
          go_wp2_with (go_at_call 12; refine (of_any _ hh _).mono ?_; rintro e w' ⟨rfl, rfl⟩)
          go_ret
          exact ⟨ret_bool (by rw [hv.out]; exact hn.out _), (Below.refl _ _).drew⟩
      · have hv : Hid (acceptB change heat draw = decide (change ≤ 0)) := Lib.hid (by unfold acceptB; rw [if_neg k5, if_neg (by omega)])
        have tp : decide (0 < change) = false := by simp; omega
        clear k4 k5
        go_enter Tryd.func22, Tryd.ntmps22
        go_wp2_with (go_at_call 12; refine (of_any _ hh _).mono ?_; rintro e w' ⟨rfl, rfl⟩)
        go_ret
        exact ⟨ret_bool (by rw [hv.out]; symm; rw [decide_eq_true_eq]; omega), Below.refl _ _⟩
    · have t4 : (kindN heat == 4) = false := by simp [k4]
      have hv : Hid (acceptB change heat draw = decide (change ≤ 0)) := Lib.hid (by unfold acceptB; rw [if_neg k5, if_neg (by omega)])
      clear k4 k5
      go_enter Tryd.func22, Tryd.ntmps22
      go_wp2_with (go_at_call 12; refine (of_any _ hh _).mono ?_; rintro e w' ⟨rfl, rfl⟩)
      go_ret
      exact ⟨ret_bool (by rw [hv.out]), Below.refl _ _⟩

theorem raccept_any (change : Int) (heat draw : Nat) (hc : Fits change) (hh : heat < 18446744073709551616) (hd : draw < 4294967296) (w : World) : Calls Tryd.prog 23 #[.int .i64 change, .float .f64 heat, .int .u32 (draw : Int)] w fun e w' => e = .returned (.bool (acceptB change heat draw)) ∧ Below w.heap.size w w' := by
  unfold Fits at hc
  obtain ⟨c1, c2⟩ := hc
  by_cases k5 : kindN heat = 5
  · have hv : Hid (acceptB change heat draw = true) := Lib.hid (by unfold acceptB; rw [if_pos k5])
    have t5 : (kindN heat == 5) = true := by simp [k5]
    clear k5
    go_enter Tryd.func23, Tryd.ntmps23
    go_wp2_with (go_at_call 14; refine (rkind_any _ hh _).mono ?_; rintro e w' ⟨rfl, rfl⟩)
    go_ret
    exact ⟨ret_bool hv.out.symm, Below.refl _ _⟩
  · have t5 : (kindN heat == 5) = false := by simp [k5]
    by_cases hp : 0 < change
    · have tp : decide (change ≤ 0) = false := by simp; omega
      by_cases k4 : kindN heat = 4
      · have t4 : (kindN heat != 4) = false := by simp [k4]
        obtain ⟨q, s, D⟩ := drawn_of change heat draw hp c2 k4 hd
        have h1 := run_some D.quo
        have h2 := run_some D.sum
        have ho := Lib.hid D.ok
        have hle := Lib.hid D.le
        clear D k4 k5
        cases h : floatBits .mul .f64 (floatOfInt .f64 (draw : Int)) s with
        | some z =>
          have h3 := run_some h
          have hz := hle.out z h
          have hz2 : z < 18446744073709551616 := by omega
          have tz : (kindN z != 6) = true := by
            rw [bne_iff_ne]; intro h6
            have := (kind_six z).1 h6
            rw [nan_not hz] at this; cases this
          have hv : Hid ((FloatKind.f64.format.order z 4751297606875873280 == some Ordering.lt) = acceptB change heat draw) := Lib.hid (by
            rw [ho.out, h, lt_word z _ (by omega) (by omega) (nan_not hz) (by decide), key_pos (by omega), show key 4751297606875873280 = 4751297606875873280 by decide]
            simp only
            rw [decide_eq_decide]; omega)
          clear h
          go_enter Tryd.func23, Tryd.ntmps23
          go_wp2_with fail
          refine (rkind_any _ hh _).mono ?_
          rintro e w' ⟨rfl, rfl⟩
          go_wp2_with fail
          refine (rkind_any _ hz2 _).mono ?_
          rintro e w' ⟨rfl, rfl⟩
          go_wp2_with fail
          go_ret
          exact ⟨ret_bool hv.out, Below.refl _ _⟩
        | none =>
          obtain ⟨z, hz⟩ : ∃ z, z = nanCut (floatOfInt .f64 (draw : Int)) s w := ⟨_, rfl⟩
          have h3 := run_float_nan (P := Tryd.prog) .mul 26 (floatOfInt .f64 (draw : Int)) s w (by simp) h
          rw [← hz] at h3
          have hg := nanCut_gives (floatOfInt .f64 (draw : Int)) s w
          rw [← hz] at hg
          have hz2 : z < 18446744073709551616 := hg.1
          have tz : (kindN z != 6) = false := by
            have := (kind_six z).2 hg.2
            simp [this]
          have hv : Hid (acceptB change heat draw = false) := Lib.hid (by rw [ho.out, h])
          clear h hz hg
          go_enter Tryd.func23, Tryd.ntmps23
          go_wp2_with fail
          refine (rkind_any _ hh _).mono ?_
          rintro e w' ⟨rfl, rfl⟩
          go_wp2_with fail
          refine (rkind_any _ hz2 _).mono ?_
          rintro e w' ⟨rfl, rfl⟩
          go_wp2_with fail
          go_ret
          exact ⟨ret_bool hv.out.symm, (Below.refl _ _).drew⟩
      · have t4 : (kindN heat != 4) = true := by simp [k4]
        have hv : Hid (acceptB change heat draw = false) := Lib.hid (by unfold acceptB; rw [if_neg k5, if_neg (by omega), tp])
        clear k4 k5
        go_enter Tryd.func23, Tryd.ntmps23
        go_wp2_with (go_at_call 14; refine (rkind_any _ hh _).mono ?_; rintro e w' ⟨rfl, rfl⟩)
        go_ret
        exact ⟨ret_bool hv.out.symm, Below.refl _ _⟩
    · have tp : decide (change ≤ 0) = true := by simp; omega
      have hv : Hid (acceptB change heat draw = true) := Lib.hid (by unfold acceptB; rw [if_neg k5, if_neg (by omega), tp])
      clear k5 hp
      go_enter Tryd.func23, Tryd.ntmps23
      go_wp2_with (go_at_call 14; refine (rkind_any _ hh _).mono ?_; rintro e w' ⟨rfl, rfl⟩)
      go_ret
      exact ⟨ret_bool hv.out.symm, Below.refl _ _⟩
end Go.Proofs.YtepnhddileadmaaDoor
