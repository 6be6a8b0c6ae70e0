/- The model's == and != at a satellite, a customer, a fleet. -/
import Derived.Test.YtnnddmojcaicbaaDoorInstT
import Derived.Laws.StructEq
namespace Go.Proofs.YtnnddmojcaicbaaDoor
open Go.RowKit

theorem fSat : Tryd.prog.underlying 46 = some (.struct (Tryd.prog.fieldsOf 46)) := by kernel_rfl
theorem sSat : Tryd.prog.stoodInHeld 46 = false := by kernel_rfl
theorem neqSat (x1 x2 y1 y2 : Int) (w : World) : (binOp .neq 46 (.agg #[.int .i64 x1, .int .i64 x2]) (.agg #[.int .i64 y1, .int .i64 y2])).run Tryd.prog w = .ok (.bool (!decide (x1 = y1 ∧ x2 = y2))) w := by
  rw [run_neq_struct, run_equalIn_struct w 9999 _ _ _ fSat sSat]
  simp [go_sem]
  by_cases h1 : x1 = y1
  · subst h1
    by_cases h2 : x2 = y2
    · subst h2
      simp
    · simp [h2]
  · simp [h1]
theorem neqSat_same (x1 x2 : Int) (w : World) : (binOp .neq 46 (.agg #[.int .i64 x1, .int .i64 x2]) (.agg #[.int .i64 x1, .int .i64 x2])).run Tryd.prog w = .ok (.bool false) w := by rw [neqSat]; simp
theorem neqSat_other {x1 x2 y1 y2 : Int} (h : ¬ (x1 = y1 ∧ x2 = y2)) (w : World) : (binOp .neq 46 (.agg #[.int .i64 x1, .int .i64 x2]) (.agg #[.int .i64 y1, .int .i64 y2])).run Tryd.prog w = .ok (.bool true) w := by rw [neqSat, decide_eq_false h]; rfl
theorem fCus : Tryd.prog.underlying 55 = some (.struct (Tryd.prog.fieldsOf 55)) := by kernel_rfl
theorem sCus : Tryd.prog.stoodInHeld 55 = false := by kernel_rfl
theorem neqCus (x1 x2 x3 x4 y1 y2 y3 y4 : Int) (w : World) : (binOp .neq 55 (.agg #[.int .i64 x1, .int .i64 x2, .int .i64 x3, .int .i64 x4]) (.agg #[.int .i64 y1, .int .i64 y2, .int .i64 y3, .int .i64 y4])).run Tryd.prog w = .ok (.bool (!decide (x1 = y1 ∧ x2 = y2 ∧ x3 = y3 ∧ x4 = y4))) w := by
  rw [run_neq_struct, run_equalIn_struct w 9999 _ _ _ fCus sCus]
  simp [go_sem]
  by_cases h1 : x1 = y1
  · subst h1
    by_cases h2 : x2 = y2
    · subst h2
      by_cases h3 : x3 = y3
      · subst h3
        by_cases h4 : x4 = y4
        · subst h4
          simp
        · simp [h4]
      · simp [h3]
    · simp [h2]
  · simp [h1]
theorem neqCus_same (x1 x2 x3 x4 : Int) (w : World) : (binOp .neq 55 (.agg #[.int .i64 x1, .int .i64 x2, .int .i64 x3, .int .i64 x4]) (.agg #[.int .i64 x1, .int .i64 x2, .int .i64 x3, .int .i64 x4])).run Tryd.prog w = .ok (.bool false) w := by rw [neqCus]; simp
theorem neqCus_other {x1 x2 x3 x4 y1 y2 y3 y4 : Int} (h : ¬ (x1 = y1 ∧ x2 = y2 ∧ x3 = y3 ∧ x4 = y4)) (w : World) : (binOp .neq 55 (.agg #[.int .i64 x1, .int .i64 x2, .int .i64 x3, .int .i64 x4]) (.agg #[.int .i64 y1, .int .i64 y2, .int .i64 y3, .int .i64 y4])).run Tryd.prog w = .ok (.bool true) w := by rw [neqCus, decide_eq_false h]; rfl
theorem fFleet : Tryd.prog.underlying 33 = some (.struct (Tryd.prog.fieldsOf 33)) := by kernel_rfl
theorem sFleet : Tryd.prog.stoodInHeld 33 = false := by kernel_rfl
theorem neqFleet (x1 x2 y1 y2 : Int) (w : World) : (binOp .neq 33 (.agg #[.int .i64 x1, .int .i64 x2]) (.agg #[.int .i64 y1, .int .i64 y2])).run Tryd.prog w = .ok (.bool (!decide (x1 = y1 ∧ x2 = y2))) w := by
  rw [run_neq_struct, run_equalIn_struct w 9999 _ _ _ fFleet sFleet]
  simp [go_sem]
  by_cases h1 : x1 = y1
  · subst h1
    by_cases h2 : x2 = y2
    · subst h2
      simp
    · simp [h2]
  · simp [h1]
theorem neqFleet_same (x1 x2 : Int) (w : World) : (binOp .neq 33 (.agg #[.int .i64 x1, .int .i64 x2]) (.agg #[.int .i64 x1, .int .i64 x2])).run Tryd.prog w = .ok (.bool false) w := by rw [neqFleet]; simp
theorem neqFleet_other {x1 x2 y1 y2 : Int} (h : ¬ (x1 = y1 ∧ x2 = y2)) (w : World) : (binOp .neq 33 (.agg #[.int .i64 x1, .int .i64 x2]) (.agg #[.int .i64 y1, .int .i64 y2])).run Tryd.prog w = .ok (.bool true) w := by rw [neqFleet, decide_eq_false h]; rfl
end Go.Proofs.YtnnddmojcaicbaaDoor
