/- Package inst: how many nodes there are, which are whose, what all get. -/
import Derived.Test.YtkapknfcepcijaaInstT
import Derived.Deep.LoopGhost
import Derived.LoopTactic
namespace Go.Proofs.Ytkapknfcepcijaa
open Go.RowKit

variable {w : World} {A : InA} {x : Ins}
/-- What so many customers get, as it wraps. -/
def loadTo (l : List Pi) : Nat → Int
  | 0 => 0
  | k + 1 => wrap64 (loadTo l k + (l.getD k (0, 0, 0, 0)).1)
theorem getD_ofN {α : Type} {l : List α} {k : Nat} {x d : α} (h : l[k]? = some x) : l.getD k d = x := by simp [List.getD, h]
theorem nodes_any (A : InA) (x : Ins) (w : World) (h : x.sats.length + x.cus.length ≤ 1000) :
    Calls Try.prog 13 #[.agg (insC A x)] w fun e w' => e = .returned (.int .i64 ((1 + x.sats.length + x.cus.length : Nat) : Int)) ∧ Below w.heap.size w w' := by
  have HB := Lib.hid ((Below.refl w.heap.size w).alloc (Nat.le_refl _) (.cells (insC A x) 28))
  unfold insC at *
  go_enter Try.func13, Try.ntmps13
  go_wp2_with fail
  go_ret
  exact ⟨by simp, HB.out⟩
theorem nodesN (A : InA) (x : Ins) (N : Nat) (hN : x.nodes = N) (w : World) (h : x.sats.length + x.cus.length ≤ 1000) :
    Calls Try.prog 13 #[.agg (insC A x)] w fun e w' => e = .returned (.int .i64 (N : Int)) ∧ Below w.heap.size w w' := by
  subst hN
  exact nodes_any A x w h
theorem nodesI (A : InA) (x : Ins) (w : World) (h : x.sats.length + x.cus.length ≤ 1000) :
    Calls Try.prog 13 #[.agg (insC A x)] w fun e w' => e = .returned (.int .i64 (1 + (x.sats.length : Int) + (x.cus.length : Int))) ∧ Below w.heap.size w w' := by
  refine (nodes_any A x w h).mono ?_
  rintro e w' ⟨rfl, hb⟩
  exact ⟨by rw [show ((1 + x.sats.length + x.cus.length : Nat) : Int) = 1 + (x.sats.length : Int) + (x.cus.length : Int) by omega], hb⟩
theorem sat_any (A : InA) (x : Ins) (s : Int) (w : World) :
    Calls Try.prog 14 #[.agg (insC A x), .int .i64 s] w fun e w' => e = .returned (.int .i64 (wrap64 (1 + s))) ∧ Below w.heap.size w w' := by
  have HB := Lib.hid ((Below.refl w.heap.size w).alloc (Nat.le_refl _) (.cells (insC A x) 28))
  unfold insC at *
  go_enter Try.func14, Try.ntmps14
  go_wp2_with fail
  go_ret
  exact ⟨rfl, HB.out⟩
theorem customer_any (A : InA) (x : Ins) (s : Int) (w : World) (h : x.sats.length ≤ 1000) :
    Calls Try.prog 15 #[.agg (insC A x), .int .i64 s] w fun e w' => e = .returned (.int .i64 (wrap64 (1 + (x.sats.length : Int) + s))) ∧ Below w.heap.size w w' := by
  have HB := Lib.hid ((Below.refl w.heap.size w).alloc (Nat.le_refl _) (.cells (insC A x) 28))
  unfold insC at *
  go_enter Try.func15, Try.ntmps15
  go_wp2_with fail
  go_ret
  exact ⟨rfl, HB.out⟩
set_option maxHeartbeats 1000000 in
theorem load_any (A : InA) (x : Ins) (w : World) (hl : x.cus.length ≤ 1000000) (hi : IsIns w.heap.size w A x) :
    Calls Try.prog 16 #[.agg (insC A x)] w fun e w' => e = .returned (.int .i64 (loadTo x.cus x.cus.length)) ∧ Below w.heap.size w w' := by
  have HG := Lib.hid (XBox.make (Below.refl _ w) A x)
  have hpp := hi.cus
  have c6 := HG.out.cells.2.2.2.2.2.2.1
  clear hi
  unfold insC at *
  go_enter Try.func16, Try.ntmps16
  go_wp2_with fail
  obtain ⟨W0, hW0⟩ : ∃ W0, w.alloc (.cells (insC A x) 28) = W0 := ⟨_, rfl⟩
  unfold insC at hW0
  rw [hW0] at HG ⊢
  clear hW0 c6
  have HX0 : Hid (XBox w W0 w.heap.size A x) := HG
  clear HG
  have HP := Lib.hid hpp
  clear hpp
  go_loopw [3, 9] (fun sv iv wr => ∃ i : Nat, iv = .int .i64 (i : Int) ∧ sv = .int .i64 (loadTo x.cus i) ∧ i ≤ x.cus.length ∧ Hid (XBox w wr w.heap.size A x)) (fun _ iv _ => x.cus.length - (intOf iv).toNat)
  case atStart => exact ⟨0, rfl, rfl, Nat.zero_le _, HX0⟩
  case round =>
    obtain ⟨i, rfl, rfl, hi, HX⟩ := hrel
    clear HX0
    by_cases hlt : i < x.cus.length
    · obtain ⟨b, off, y, hca, hb, hy, p0, p1, p2, p3⟩ := (HP.out.later HX.out.below).at_ hlt
      have HY : Hid (loadTo x.cus (i + 1) = wrap64 (loadTo x.cus i + y.1)) := Lib.hid (by rw [loadTo, getD_ofN hy])
      have HXN : Hid (XBox w (wr.alloc (.cells #[.int .i64 y.1, .int .i64 y.2.1, .int .i64 y.2.2.1, .int .i64 y.2.2.2] 44)) w.heap.size A x) := Lib.hid (HX.out.later ((Below.refl _ _).alloc (Nat.le_refl _) _))
      rw [hca]
      clear hy hca
      go_wp2_with fail
      go_roundw
      case rel => exact ⟨i + 1, by go_num, by rw [HY.out], by omega, HXN⟩
      case measure => simp [intOf]; omega
    · obtain rfl : i = x.cus.length := by omega
      go_wp2_with fail
      go_ret
      exact ⟨rfl, HX.out.below⟩
end Go.Proofs.Ytkapknfcepcijaa
