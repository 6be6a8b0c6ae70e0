/- The fixed fact of chapter 8. -/
import Derived.Test.YtgoegkajfhhcjaaOrderErrs
import Derived.Test.YtgoegkajfhhcjaaLongsEq
namespace Go.Proofs.Ytgoegkajfhhcjaa
open Go.RowKit

variable {w w2 : World}
def arcsO : List Ar := [(2, 0, 5), (1, 0, 1)]
def gotO : Nat → Int := fun i => if i = 0 then 10 else if i = 1 then 9 else 3
theorem checkO : checkV ((3 : Nat) : Int) arcsO = 0 := by decide
theorem wholeO : Whole arcsO 3 [1, 2, 0] := by
  refine ⟨?_, rfl⟩
  have h1 : Seq arcsO 3 ([] ++ [1]) := Seq.nil.snoc (by omega) ⟨by simp, fun x hx e => by
    simp [arcsO] at hx
    rcases hx with rfl | rfl <;> simp at e⟩ (fun j hj hf => by
    have : j = 0 := by omega
    subst this
    obtain ⟨f, _, h⟩ := hf.2 (2, 0, 5) (by simp [arcsO]) rfl
    simp at h)
  have h2 : Seq arcsO 3 (([] ++ [1]) ++ [2]) := h1.snoc (by omega) ⟨by simp, fun x hx e => by
    simp [arcsO] at hx
    rcases hx with rfl | rfl <;> simp at e⟩ (fun j hj hf => by
    by_cases q : j = 0
    · subst q
      obtain ⟨f, h3, h⟩ := hf.2 (2, 0, 5) (by simp [arcsO]) rfl
      simp at h h3
      omega
    · have : j = 1 := by omega
      subst this
      exact hf.1 (by simp))
  exact h2.snoc (by omega) ⟨by simp, fun x hx e => by
    simp [arcsO] at hx
    rcases hx with rfl | rfl
    · exact ⟨2, rfl, by simp⟩
    · exact ⟨1, rfl, by simp⟩⟩ (fun j hj => by omega)
theorem lateO : LateIs arcsO 3 (fun i => ([0, 9, 3] : List Int).getD i 0) gotO := by
  refine ⟨fun i hi => ?_, fun x hx i j h1 h2 => ?_, fun i hi => ?_⟩
  · match i, hi with
    | 0, _ => decide
    | 1, _ => decide
    | 2, _ => decide
  · simp [arcsO] at hx
    rcases hx with rfl | rfl
    · have a1 : i = 2 := by simp at h1; omega
      have a2 : j = 0 := by simp at h2; omega
      subst a1 a2
      decide
    · have a1 : i = 1 := by simp at h1; omega
      have a2 : j = 0 := by simp at h2; omega
      subst a1 a2
      decide
  · match i, hi with
    | 0, _ => exact .inr ⟨(1, 0, 1), by simp [arcsO], 1, rfl, rfl, by decide⟩
    | 1, _ => exact .inl (by decide)
    | 2, _ => exact .inl (by decide)
theorem errO : lateErr ((3 : Nat) : Int) arcsO [0, 9, 3] = 0 := lateErr_ok (o := [1, 2, 0]) rfl checkO (by decide) wholeO
theorem arcsO_at (w : World) (T : TypeId) (ob : Obj) : IsArcs (World.heap ((w.alloc (.cells #[.int .i64 2, .int .i64 0, .int .i64 5, .int .i64 1, .int .i64 0, .int .i64 1] T)).alloc ob)).size ((w.alloc (.cells #[.int .i64 2, .int .i64 0, .int .i64 5, .int .i64 1, .int .i64 0, .int .i64 1] T)).alloc ob) (some ⟨w.heap.size, 0, none⟩) 2 arcsO := by
  refine ⟨rfl, .inr ⟨w.heap.size, 0, rfl, by simp; omega, fun k x hk => ?_⟩⟩
  have hb : ((w.alloc (.cells #[.int .i64 2, .int .i64 0, .int .i64 5, .int .i64 1, .int .i64 0, .int .i64 1] T)).alloc ob).heap[w.heap.size]? = some (.cells #[.int .i64 2, .int .i64 0, .int .i64 5, .int .i64 1, .int .i64 0, .int .i64 1] T (0, 0)) := heap_alloc2_old _ _ _
  match k, hk with
  | 0, hk =>
    simp [arcsO] at hk
    subst hk
    exact ⟨by simp [World.cell?, hb], by simp [World.cell?, hb], by simp [World.cell?, hb]⟩
  | 1, hk =>
    simp [arcsO] at hk
    subst hk
    exact ⟨by simp [World.cell?, hb], by simp [World.cell?, hb], by simp [World.cell?, hb]⟩
  | k + 2, hk => simp [arcsO] at hk
theorem ints3_at (w : World) (x y z : Int) (T : TypeId) : IsInts (World.heap (w.alloc (.cells #[.int .i64 x, .int .i64 y, .int .i64 z] T))).size (w.alloc (.cells #[.int .i64 x, .int .i64 y, .int .i64 z] T)) (some ⟨w.heap.size, 0, none⟩) 3 [x, y, z] := by
  refine ⟨rfl, .inr ⟨w.heap.size, 0, rfl, by simp, fun k v hk => ?_⟩⟩
  match k, hk with
  | 0, hk => simp at hk; subst hk; simp
  | 1, hk => simp at hk; subst hk; simp
  | 2, hk => simp at hk; subst hk; simp
  | k + 3, hk => simp at hk

set_option maxHeartbeats 4000000 in
set_option maxRecDepth 100000 in
theorem order_awake (P : OrderSpec) (w : World) : Calls Try.prog 8 #[] w fun e w' => e = .returned (.bool true) ∧ Below w.heap.size w w' := by
  have HA := Lib.hid (arcsO_at w 35 (.cells #[.int .i64 3, .slice (some ⟨w.heap.size, 0, none⟩) 2 2] 26))
  have HB : Hid (Box w ((w.alloc (.cells #[.int .i64 2, .int .i64 0, .int .i64 5, .int .i64 1, .int .i64 0, .int .i64 1] 35)).alloc (.cells #[.int .i64 3, .slice (some ⟨w.heap.size, 0, none⟩) 2 2] 26)) (w.heap.size + 1) 3 (some ⟨w.heap.size, 0, none⟩) 2 2) := Lib.hid (by
    have := Box.make ((Below.refl _ w).alloc (Nat.le_refl _) (.cells #[.int .i64 2, .int .i64 0, .int .i64 5, .int .i64 1, .int .i64 0, .int .i64 1] 35)) 3 (some ⟨w.heap.size, 0, none⟩) 2 2
    simpa using this)
  go_enter Try.func8, Try.ntmps8
  go_wp2_with (first
    | (go_at_call 10; refine (P.sort_whole checkO wholeO _ _ HA.out).mono ?_; rintro e w4 ⟨hb4, v4, c4, rfl, hr4⟩; have HB4 := Lib.hid ((HB.out.later hb4).alloc (.cells #[.int .i64 0, .int .i64 9, .int .i64 3] 2)); have HBA := Lib.hid ((Below.refl _ w4).alloc (Nat.le_refl _) (.cells #[.int .i64 0, .int .i64 9, .int .i64 3] 2)); have HA4 := Lib.hid (((HA.out.later hb4).mono hb4.size).later HBA.out |>.mono HBA.out.size); have HR4 := Lib.hid (owns_below hr4 HBA.out); have HI4 := Lib.hid (ints3_at w4 0 9 3 2); have y0 := (HB.out.later hb4).c0; have y1 := (HB.out.later hb4).c1; clear hb4 hr4)
    | (go_at_call 16; refine (P.late_ok 3 2 2 arcsO _ _ [0, 9, 3] _ _ errO HA4.out HI4.out).mono ?_; rintro e w5 ⟨hb5, v5, got, rfl, hr5, hlate⟩; obtain ⟨gg, cg, hv5, _⟩ := hr5.some_ (by omega); subst hv5; have HB5 := Lib.hid ((HB4.out.later hb5).alloc (.cells #[.int .i64 1, .int .i64 2, .int .i64 0] 3)); have HR5 := Lib.hid ((owns_below HR4.out hb5).alloc (.cells #[.int .i64 1, .int .i64 2, .int .i64 0] 3)); have HG5 := Lib.hid (hr5.below ((Below.refl _ w5).alloc (Nat.le_refl _) (.cells #[.int .i64 1, .int .i64 2, .int .i64 0] 3))); have HLT := Lib.hid hlate; have HL5 : Hid ((w5.alloc (.cells #[.int .i64 1, .int .i64 2, .int .i64 0] 3)).ownsRow w5.heap.size 3 1 (.slice (some ⟨w5.heap.size, 0, none⟩) 3 3) 3 (numsV [1, 2, 0])) := Lib.hid (World.ownsRow_lit (base := w5.heap.size) (e := 3) (size := 1) w5 #[.int .i64 1, .int .i64 2, .int .i64 0] 3 (Nat.le_refl _) (by decide) rfl); clear hb5 hr5 hlate)
    | (go_at_call 12; refine (eqIntsAt (t := [1, 2, 0]) rfl HR5.out HL5.out (by decide)).mono ?_; rintro e w6 ⟨rfl, hb6⟩; have HB6 := Lib.hid ((HB5.out.later hb6).alloc (.cells #[.int .i64 10, .int .i64 9, .int .i64 3] 2)); have HG6 := Lib.hid ((HG5.out.below hb6).below ((Below.refl _ w6).alloc (Nat.le_refl _) (.cells #[.int .i64 10, .int .i64 9, .int .i64 3] 2))); have HL6 : Hid (LongRow (w6.alloc (.cells #[.int .i64 10, .int .i64 9, .int .i64 3] 2)) w6.heap.size (.slice (some ⟨w6.heap.size, 0, none⟩) 3 3) 3 gotO) := Lib.hid (World.ownsRow_lit (base := w6.heap.size) (e := 2) (size := 1) w6 #[.int .i64 10, .int .i64 9, .int .i64 3] 3 (Nat.le_refl _) (by decide) rfl); have HSAME : Hid (sameN got gotO 3 = true) := Lib.hid (sameN_true.2 fun i hi => HLT.out.unique lateO wholeO i hi); clear hb6)
    | (go_at_call 18; refine (eqRows HG6.out HL6.out (by omega)).mono ?_; rw [HSAME.out]; rintro e w7 ⟨rfl, hb7⟩; have HB7 := Lib.hid (HB6.out.later hb7); clear hb7))
  go_ret
  exact ⟨rfl, HB7.out.below⟩
end Go.Proofs.Ytgoegkajfhhcjaa
