/- The fixed fact of chapter 6; a graph that may not be. -/
import Derived.Test.YtkjiednhllmknaaReachDo
import Derived.Test.YtkjiednhllmknaaJoined
namespace Go.Proofs.Ytkjiednhllmknaa
open Go.RowKit

def arcs2 : List Ar := [(0, 1, 2), (1, 2, 3)]
theorem comes2 {i : Nat} (h : Comes arcs2 1 i) : i = 1 ∨ i = 2 := by
  induction h with
  | refl => exact .inl rfl
  | step _ hx h1 h2 ih =>
    simp [arcs2] at hx
    rcases hx with rfl | rfl <;> simp at h1 h2 <;> omega
theorem join2 : joinV (joinO arcs2 [0, 1] 0 0) 2 = .tuple #[.int .i64 5, .bool true] := by
  simp [joinV, joinO, arcNo, arcs2, wrap64]
theorem check2 : checkV ((3 : Nat) : Int) arcs2 = 0 := by decide
variable {w w2 : World} {g : Nat} {T : TypeId} {o : Obj}
theorem arcs2_at (w : World) (T : TypeId) (o : Obj) : IsArcs (w.heap.size + 2) ((w.alloc (.cells #[.int .i64 0, .int .i64 1, .int .i64 2, .int .i64 1, .int .i64 2, .int .i64 3] T)).alloc o) (some ⟨w.heap.size, 0, none⟩) 2 arcs2 := by
  refine ⟨rfl, .inr ⟨w.heap.size, 0, rfl, by omega, fun k x hk => ?_⟩⟩
  match k, hk with
  | 0, hk => simp [arcs2] at hk; subst hk; simp
  | 1, hk => simp [arcs2] at hk; subst hk; simp
  | k + 2, hk => simp [arcs2] at hk
theorem ints2_at (w : World) (T : TypeId) : IsInts (w.heap.size + 1) (w.alloc (.cells #[.int .i64 0, .int .i64 1] T)) (some ⟨w.heap.size, 0, none⟩) 2 [0, 1] := by
  refine ⟨rfl, .inr ⟨w.heap.size, 0, rfl, by omega, fun k x hk => ?_⟩⟩
  match k, hk with
  | 0, hk => simp at hk; subst hk; simp
  | 1, hk => simp at hk; subst hk; simp
  | k + 2, hk => simp at hk

theorem awake_joined (w : World) (g : Nat) (a : Option Addr) (hl : IsArcs w.heap.size w a 2 arcs2) (hg : w.heap.size = g) : Calls Try.prog 17 #[.agg #[.int .i64 3, .slice a 2 2], .slice (some ⟨g, 0, none⟩) 2 2, .int .i64 0, .int .i64 2] (w.alloc (.cells #[.int .i64 0, .int .i64 1] 3)) fun e w' =>
    e = .returned (.tuple #[.int .i64 5, .bool true]) ∧ Below w.heap.size w w' := by
  subst hg
  have hw := ints2_at w 3
  have h := joined_any 3 2 a (some ⟨w.heap.size, 0, none⟩) 2 2 0 2 (w.alloc (.cells #[.int .i64 0, .int .i64 1] 3)) ((hl.later ((Below.refl _ w).alloc (Nat.le_refl _) _)).mono (by simp)) (by simpa using hw) (by omega)
  rw [join2] at h
  refine h.mono fun e w' ⟨h1, h2⟩ => ⟨h1, ?_⟩
  exact ((Below.refl _ w).alloc (Nat.le_refl _) _).trans (h2.mono (by simp))
theorem awake_reach (w : World) (a : Option Addr) (hl : IsArcs w.heap.size w a 2 arcs2) : Calls Try.prog 14 #[.agg #[.int .i64 3, .slice a 2 2], .int .i64 1] w fun e w' =>
    ∃ C, e = .returned (.slice (some ⟨C, 0, none⟩) 3 3) ∧ w'.cell? ⟨C, 0, none⟩ = some (.bool false) ∧ w'.cell? ⟨C, 1, none⟩ = some (.bool true) ∧ w'.cell? ⟨C, 2, none⟩ = some (.bool true) ∧ Below w.heap.size w w' := by
  refine (reach_any 3 1 (by omega) a 2 w hl check2).mono ?_
  rintro e w' ⟨C, c, h1, h2, _, h4, h5⟩
  have b0 : c 0 = false := by
    cases h : c 0 with
    | false => rfl
    | true => have := comes2 ((h4 0 (by omega)).1 h); omega
  have b1 : c 1 = true := (h4 1 (by omega)).2 .refl
  have b2 : c 2 = true := (h4 2 (by omega)).2 (.step (x := (1, 2, 3)) .refl (by simp [arcs2]) rfl rfl)
  refine ⟨C, h1, ?_, ?_, ?_, h5⟩
  · rw [h2.cell (by omega), b0]
  · rw [h2.cell (by omega), b1]
  · rw [h2.cell (by omega), b2]

theorem graph_awake (w : World) : Calls Try.prog 7 #[] w fun e w' => e = .returned (.bool true) ∧ Below w.heap.size w w' := by
  have HA := Lib.hid (arcs2_at w 28 (.cells #[.int .i64 3, .slice (some ⟨w.heap.size, 0, none⟩) 2 2] 24))
  have HB := Lib.hid (Box.make ((Below.refl _ w).alloc (Nat.le_refl _) (.cells #[.int .i64 0, .int .i64 1, .int .i64 2, .int .i64 1, .int .i64 2, .int .i64 3] 28)) 3 (some ⟨w.heap.size, 0, none⟩) 2 2)
  go_enter Try.func7, Try.ntmps7
  go_wp2_with (first
    | (go_at_call 17; refine (awake_joined _ _ _ (by simpa using HA.out) (by simp)).mono ?_; rintro e w2 ⟨rfl, hb2⟩; have HB2 := Lib.hid (HB.out.later hb2); have HA2 := Lib.hid ((HA.out.later (hb2.mono (by simp))).mono (show w.heap.size + 2 ≤ w2.heap.size by have := hb2.size; simp at this; omega)); have x0 := HB2.out.c0; have x1 := HB2.out.c1; simp at x0 x1; clear hb2)
    | (go_at_call 14; refine (awake_reach _ _ HA2.out).mono ?_; rintro e w3 ⟨C, rfl, y0, y1, y2, hb3⟩; have HB3 := Lib.hid (HB2.out.later hb3); clear hb3))
  go_ret
  exact ⟨rfl, HB3.out.below⟩
end Go.Proofs.Ytkjiednhllmknaa
