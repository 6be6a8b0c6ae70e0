/- Which function a method of the library's interface is, at a pile's items. -/
import Derived.Test.YtgoegkajfhhcjaaRows
import Derived.WalkKit
namespace Go.Proofs.Ytgoegkajfhhcjaa
open Go.RowKit

theorem load_hd (a : Addr) (w : World) (v : Value) (h : w.cell? a = some v) : (loadVar 76 a).run Try.prog w = .ok v w := by
  go_simp
theorem chk_run {P : Program} (T : Nat) (a : Addr) (s name : ByteArray) (w : World) : (Builtin.ssaWrapNilChk_ #[T] T #[.pointer (some a), .string s, .string name]).run P w = .ok (.pointer (some a)) w := by
  rfl
/-- A method of the value, at a pointer: the value is read. -/
theorem meth_val {P : Program} {T E f : Nat} {name : String} (ht : P.underlying T = some (.pointer E))
    (hm : (P.info? T).bind (fun i => (i.methods.find? (·.name == name)).map fun m => (m.path, m.func)) = some (#[], some (f, false)))
    (k : Nat) (a : Addr) (w : World) (v : Value) (h : (loadVar E a).run P w = .ok v w) : (method (k + 1) T (.pointer (some a)) name).run P w = .ok (f, v) w := by
  cases hi : P.info? T with
  | none => simp [hi] at hm
  | some i =>
    simp only [hi, Option.bind_some, Option.map_eq_some_iff] at hm
    obtain ⟨m, hm1, hm2⟩ := hm
    simp only [Prod.mk.injEq] at hm2
    unfold method
    simp [typeInfo, hi, hm1, hm2.1, hm2.2, follow, receiverAt, Place.get, run_underlying ht, strVal, chk_run, asAddr, h, Sem.run_bind]
/-- A method of the pointer. -/
theorem meth_ptr {P : Program} {T E f : Nat} {name : String} (ht : P.underlying T = some (.pointer E))
    (hm : (P.info? T).bind (fun i => (i.methods.find? (·.name == name)).map fun m => (m.path, m.func)) = some (#[], some (f, true)))
    (k : Nat) (a : Addr) (w : World) : (method (k + 1) T (.pointer (some a)) name).run P w = .ok (f, .pointer (some a)) w := by
  cases hi : P.info? T with
  | none => simp [hi] at hm
  | some i =>
    simp only [hi, Option.bind_some, Option.map_eq_some_iff] at hm
    obtain ⟨m, hm1, hm2⟩ := hm
    simp only [Prod.mk.injEq] at hm2
    unfold method
    simp [typeInfo, hi, hm1, hm2.1, hm2.2, follow, receiverAt, Place.get, run_underlying ht, Sem.run_bind]

theorem meth_len (a : Addr) (w : World) (v : Value) (h : w.cell? a = some v) : (method 212 80 (.pointer (some a)) "Len").run Try.prog w = .ok (60, v) w :=
  meth_val Try.underlying80 (by kernel_rfl) 211 a w v (load_hd a w v h)
theorem meth_less (a : Addr) (w : World) (v : Value) (h : w.cell? a = some v) : (method 212 80 (.pointer (some a)) "Less").run Try.prog w = .ok (61, v) w :=
  meth_val Try.underlying80 (by kernel_rfl) 211 a w v (load_hd a w v h)
theorem meth_swap (a : Addr) (w : World) (v : Value) (h : w.cell? a = some v) : (method 212 80 (.pointer (some a)) "Swap").run Try.prog w = .ok (62, v) w :=
  meth_val Try.underlying80 (by kernel_rfl) 211 a w v (load_hd a w v h)
theorem meth_push (a : Addr) (w : World) : (method 212 80 (.pointer (some a)) "Push").run Try.prog w = .ok (64, .pointer (some a)) w :=
  meth_ptr Try.underlying80 (by kernel_rfl) 211 a w
theorem meth_pop (a : Addr) (w : World) : (method 212 80 (.pointer (some a)) "Pop").run Try.prog w = .ok (63, .pointer (some a)) w :=
  meth_ptr Try.underlying80 (by kernel_rfl) 211 a w
end Go.Proofs.Ytgoegkajfhhcjaa
