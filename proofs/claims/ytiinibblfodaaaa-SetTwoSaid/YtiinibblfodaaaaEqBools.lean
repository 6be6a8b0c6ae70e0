/- Two arrays of 64 bools with the same cells are equal. -/
import Derived.Test.YtiinibblfodaaaaRows
import Derived.Test.YtiinibblfodaaaaBits
import Derived.Laws.StructEq
import Derived.WalkKit
namespace Go.Proofs.Ytiinibblfodaaaa
open Go.RowKit

section
variable {P : Program} (w : World)
theorem run_equalIn_bools (d : Nat) (t e : TypeId) (ht : P.underlying t = some (.array 64 e)) (he : P.underlying e = some .bool) (hsz : ∀ w, (sizeOf e).run P w = .ok 1 w) (f : Nat → Bool) :
    (Op.equalIn (d + 2) t (.agg (cellsB f)) (.agg (cellsB f))).run P w = .ok true w := by
  rw [Op.equalIn]
  simp only [Sem.run_bind, run_underlying ht, Result.andThen_ok, hsz, Std.Legacy.Range.forIn_eq_forIn_range', Std.Legacy.Range.size, Nat.sub_zero, Nat.add_sub_cancel, Nat.div_one]
  have hl : ∀ i ∈ List.range' 0 64 1, i < 64 := fun i hi => by simpa using (List.mem_range'_1.1 hi).2
  generalize List.range' 0 64 1 = l at hl ⊢
  induction l with
  | nil => simp
  | cons i l ih =>
    have hi : i < 64 := hl i (by simp)
    have px : (part e (cellsB f) (i * 1)).run P w = .ok (.bool (f i)) w := by
      have hg := cellsB_get f i hi
      simp [part, isAgg, run_underlying he, hg]
    have pe : (Op.equalIn (d + 1) e (.bool (f i)) (.bool (f i))).run P w = .ok (f i == f i) w := run_equalIn_bool w d e _ _ he
    simp only [List.forIn_cons, Sem.run_bind, px, pe, Result.andThen_ok, beq_self_eq_true]
    simp only [Bool.not_true, Bool.false_eq_true, if_false, Sem.run_pure, Result.andThen_ok]
    exact ih fun j hj => hl j (by simp [hj])
end
theorem boolInfo : (Try.prog.info? 4).map (fun i => i.size) = some 1 := by kernel_rfl
theorem bool_size (w : World) : (sizeOf 4).run Try.prog w = .ok 1 w := by
  have h := boolInfo
  cases hq : Try.prog.info? 4 with
  | none => simp [hq] at h
  | some i => simp [hq] at h; simp [sizeOf, typeInfo, hq, h]
/-- As the walk meets it: two spellings. -/
theorem eq_same (f : Nat → Bool) (w : World) : (Op.equalIn 10000 24 (.agg (cellsB f)) (.agg (cellsB f))).run Try.prog w = .ok true w :=
  run_equalIn_bools w 9998 24 4 Try.underlying24 Try.underlying4 bool_size f
theorem eql_same (f : Nat → Bool) (w : World) : (binOp .eql 24 (.agg (cellsB f)) (.agg (cellsB f))).run Try.prog w = .ok (.bool true) w := by
  rw [run_eql_struct, eq_same]; rfl
theorem guard_bools : Try.prog.eqGuardType Try.prog.depth 24 = false := by kernel_rfl
end Go.Proofs.Ytiinibblfodaaaa
