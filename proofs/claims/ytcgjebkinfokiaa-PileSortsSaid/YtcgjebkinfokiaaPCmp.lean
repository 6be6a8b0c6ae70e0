/- The law's order of things, as the library's sort asks for it. -/
import Derived.Test.YtcgjebkinfokiaaPTake
import Derived.Test.YtcgjebkinfokiaaSort
import Derived.Shelf.SlSortCmp.NoneTotal
import Derived.StillTailTactics
namespace Go.Proofs.Ytcgjebkinfokiaa
open Go.RowKit
open Go.Sort (swp HoldsK putRowK flatK grow SWO)

/-- What cmp.Compare answers. -/
def cmpI (x y : Int) : Int := if x < y then -1 else if y < x then 1 else 0
/-- What cmp.Or of two answers. -/
def orI (a b : Int) : Int := if a = 0 then b else a
/-- .. the law's order. -/
def cmpIt (x y : It) : Int := orI (cmpI x.1 y.1) (cmpI x.2 y.2)
theorem lt_it (x y : It) : ltOf cmpIt x y = lessB x y := by
  unfold ltOf cmpIt orI cmpI lessB
  congr 1
  apply propext
  by_cases h1 : x.1 < y.1
  · simp [h1]
  · by_cases h2 : y.1 < x.1
    · have h3 : ¬ x.1 = y.1 := by omega
      simp [h1, h2, h3]
    · have h3 : x.1 = y.1 := by omega
      by_cases h4 : x.2 < y.2
      · simp [h3, h4]
      · by_cases h5 : y.2 < x.2 <;> simp [h3, h4, h5]
theorem swo_it : SWO (ltOf cmpIt) where
  irrefl x := by rw [lt_it]; exact lessB_false.2 (Le.refl x)
  trans x y z h1 h2 := by
    rw [lt_it, lessB_true] at *
    intro h
    exact h1 ((Le.of_less h2).trans h)
  ntrans x y z h1 h2 := by
    rw [lt_it, lessB_false] at *
    exact h2.trans h1

theorem nan64 (x : Int) (w : World) : Calls Try.prog 22 #[.int .i64 x] w fun e w' => e = .returned (.bool false) ∧ w = w' := by
  go_enter Try.func22, Try.ntmps22
  go_wp2_with fail
  go_ret
  exact ⟨rfl, rfl⟩
theorem nanInt (x : Int) (w : World) : Calls Try.prog 23 #[.int .i64 x] w fun e w' => e = .returned (.bool false) ∧ w = w' := by
  go_enter Try.func23, Try.ntmps23
  go_wp2_with fail
  go_ret
  exact ⟨rfl, rfl⟩
theorem cmp64 (x y : Int) (w : World) : Calls Try.prog 16 #[.int .i64 x, .int .i64 y] w fun e w' => e = .returned (.int .i64 (cmpI x y)) ∧ w = w' := by
  have H : Hid (cmpI x y = if x < y then -1 else if y < x then 1 else 0) := rfl
  generalize cmpI x y = r at H ⊢
  by_cases h1 : x < y
  · go_enter Try.func16, Try.ntmps16
    go_wp2_with (go_at_call 22; refine (nan64 _ _).mono ?_; rintro e w' ⟨rfl, rfl⟩)
    go_ret
    exact ⟨by rw [H.out, if_pos h1]; rfl, rfl⟩
  · by_cases h2 : y < x
    · go_enter Try.func16, Try.ntmps16
      go_wp2_with (go_at_call 22; refine (nan64 _ _).mono ?_; rintro e w' ⟨rfl, rfl⟩)
      go_ret
      exact ⟨by rw [H.out, if_neg (by omega), if_pos h2]; rfl, rfl⟩
    · go_enter Try.func16, Try.ntmps16
      go_wp2_with (go_at_call 22; refine (nan64 _ _).mono ?_; rintro e w' ⟨rfl, rfl⟩)
      go_ret
      exact ⟨by rw [H.out, if_neg (by omega), if_neg (by omega)]; rfl, rfl⟩
theorem cmpInt (x y : Int) (w : World) : Calls Try.prog 17 #[.int .i64 x, .int .i64 y] w fun e w' => e = .returned (.int .i64 (cmpI x y)) ∧ w = w' := by
  have H : Hid (cmpI x y = if x < y then -1 else if y < x then 1 else 0) := rfl
  generalize cmpI x y = r at H ⊢
  by_cases h1 : x < y
  · go_enter Try.func17, Try.ntmps17
    go_wp2_with (go_at_call 23; refine (nanInt _ _).mono ?_; rintro e w' ⟨rfl, rfl⟩)
    go_ret
    exact ⟨by rw [H.out, if_pos h1]; rfl, rfl⟩
  · by_cases h2 : y < x
    · go_enter Try.func17, Try.ntmps17
      go_wp2_with (go_at_call 23; refine (nanInt _ _).mono ?_; rintro e w' ⟨rfl, rfl⟩)
      go_ret
      exact ⟨by rw [H.out, if_neg (by omega), if_pos h2]; rfl, rfl⟩
    · go_enter Try.func17, Try.ntmps17
      go_wp2_with (go_at_call 23; refine (nanInt _ _).mono ?_; rintro e w' ⟨rfl, rfl⟩)
      go_ret
      exact ⟨by rw [H.out, if_neg (by omega), if_neg (by omega)]; rfl, rfl⟩

/-- cmp.Or of two: the first that isn't nought. -/
theorem or_two (a b : Int) (g : Nat) (w : World) (c1 : w.cell? ⟨g, 0, none⟩ = some (.int .i64 a)) (c2 : w.cell? ⟨g, 1, none⟩ = some (.int .i64 b)) :
    Calls Try.prog 15 #[.slice (some ⟨g, 0, none⟩) 2 2] w fun e w' => e = .returned (.int .i64 (orI a b)) ∧ w = w' := by
  have H : Hid (orI a b = if a = 0 then b else a) := rfl
  generalize orI a b = r at H ⊢
  go_enter Try.func15, Try.ntmps15
  go_wp2_with fail
  go_loop [8] (fun i => ∃ k : Nat, k ≤ 2 ∧ i = .int .i64 k ∧ Hid (1 ≤ k → a = 0) ∧ Hid (2 ≤ k → b = 0)) (fun i => 2 - (intOf i).toNat)
  case atStart => exact ⟨0, by omega, rfl, fun h => absurd h (by omega), fun h => absurd h (by omega)⟩
  case round =>
    obtain ⟨k, hk, rfl, ha, hb⟩ := hrel
    match k, hk with
    | 0, _ =>
      by_cases h1 : a = 0
      · have h2 : (a != 0) = false := by simp [h1]
        have HA := Lib.hid h1; clear h1 ha hb
        go_wp2_with fail
        go_round
        case rel => exact ⟨1, by omega, by go_num, fun _ => HA.out, fun h => absurd h (by omega)⟩
        case measure => simp [intOf]
      · have h2 : (a != 0) = true := by simp [h1]
        have HA := Lib.hid h1; clear h1 ha hb
        go_wp2_with fail
        go_ret
        exact ⟨by rw [H.out, if_neg HA.out]; rfl, rfl⟩
    | 1, _ =>
      have HA := Lib.hid (ha.out (by omega))
      by_cases h1 : b = 0
      · have h2 : (b != 0) = false := by simp [h1]
        have HB := Lib.hid h1; clear h1 ha hb
        go_wp2_with fail
        go_round
        case rel => exact ⟨2, by omega, by go_num, fun _ => HA.out, fun _ => HB.out⟩
        case measure => simp [intOf]
      · have h2 : (b != 0) = true := by simp [h1]
        have HB := Lib.hid h1; clear h1 ha hb
        go_wp2_with fail
        go_ret
        exact ⟨by rw [H.out, if_pos HA.out]; rfl, rfl⟩
    | 2, _ =>
      have HA := Lib.hid (ha.out (by omega))
      have HB := Lib.hid (hb.out (by omega))
      clear ha hb
      go_wp2_with fail
      go_ret
      exact ⟨by rw [H.out, if_pos HA.out, HB.out]; rfl, rfl⟩

set_option maxHeartbeats 2000000 in
set_option maxRecDepth 100000 in
/-- The law's own comparison: two things boxed, a slice of two made: in whatever world. -/
theorem closure_any (x y : It) (w : World) : Calls Try.prog 14 #[.agg #[.int .i64 x.1, .int .i64 x.2], .agg #[.int .i64 y.1, .int .i64 y.2]] w fun e w' => e = .returned (.int .i64 (cmpIt x y)) ∧ ∃ q os, w' = grow (w.drewN q) os := by
  have H : Hid (cmpIt x y = orI (cmpI x.1 y.1) (cmpI x.2 y.2)) := rfl
  generalize cmpIt x y = r at H ⊢
  have H1 := Lib.hid (fun W => (cmp64 x.1 y.1 W).mono fun _ _ ⟨he, hw⟩ => (⟨he, hw.symm⟩ : _ ∧ _ = W))
  have H2 := Lib.hid (fun W => (cmpInt x.2 y.2 W).mono fun _ _ ⟨he, hw⟩ => (⟨he, hw.symm⟩ : _ ∧ _ = W))
  generalize cmpI x.1 y.1 = p at H H1
  generalize cmpI x.2 y.2 = q at H H2
  obtain ⟨a, b⟩ := x
  obtain ⟨c, d⟩ := y
  go_enter Try.func14, Try.ntmps14
  go_wp2_with fail
  obtain ⟨w2, hw2⟩ : ∃ w2, w2 = World.drew ((w.alloc (.cells #[.int .i64 a, .int .i64 b] 31)).alloc (.cells #[.int .i64 c, .int .i64 d] 31)) := ⟨_, rfl⟩
  have HW : Hid (∃ q os, w2 = grow (w.drewN q) os) := Lib.hid ⟨1, _, by rw [hw2, Sort.alloc_eq_grow, Sort.alloc_eq_grow, Sort.grow_grow]; rfl⟩
  have c1 : w2.cell? ⟨w.heap.size, 0, none⟩ = some (.int .i64 a) := by rw [hw2]; simp
  have c2 : w2.cell? ⟨w.heap.size, 1, none⟩ = some (.int .i64 b) := by rw [hw2]; simp
  have c3 : w2.cell? ⟨w.heap.size + 1, 0, none⟩ = some (.int .i64 c) := by rw [hw2]; simp
  have c4 : w2.cell? ⟨w.heap.size + 1, 1, none⟩ = some (.int .i64 d) := by rw [hw2]; simp
  refine wp_region_still_tail 10 (by kernel_rfl) (by kernel_rfl) ?_
  simp only [List.take_succ_cons, List.take_zero, List.drop_succ_cons, List.drop_zero]
  change wpStill _ _ (World.drew ((w.alloc (.cells #[.int .i64 a, .int .i64 b] 31)).alloc (.cells #[.int .i64 c, .int .i64 d] 31))) (fun a' => wpList _ _ _ _ a' (World.drew ((w.alloc (.cells #[.int .i64 a, .int .i64 b] 31)).alloc (.cells #[.int .i64 c, .int .i64 d] 31)))) _ _
  rw [← hw2]
  clear hw2
  still_step
  still_step
  still_step
  still_step
  still_call (H1.out w2)
  still_step
  still_step
  still_step
  still_step
  still_call (H2.out w2)
  refine wpStill_nil ?_
  go_wp2_with (go_at_call 15; refine (or_two p q w2.heap.size _ (by simp) (by simp)).mono ?_; rintro e w' ⟨rfl, rfl⟩)
  go_ret
  obtain ⟨n, os, hos⟩ := HW.out
  exact ⟨by rw [H.out]; rfl, n, _, by rw [hos, Sort.alloc_eq_grow, Sort.grow_grow]⟩
end Go.Proofs.Ytcgjebkinfokiaa
