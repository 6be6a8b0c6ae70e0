/- Package word: run, Read. -/
import Derived.Test.YtoafmbjdchkahaaReadNum
import Derived.Recover
import Derived.Laws.EntriesVeiled
import Derived.Lib.Builder
namespace Go.Proofs.Ytoafmbjdchkahaa
open Go.RowKit
variable {base R n k : Nat} {v : Value} {ws : List W} {at_ code : Int} {w w' : World}

theorem nil_nil (w : World) : (binOp .eql 20 .nilIface .nilIface).run Try.prog w = .ok (.bool true) w := by kernel_rfl
theorem halt_nil (R : Nat) (w : World) : (binOp .eql 20 (haltV R) .nilIface).run Try.prog w = .ok (.bool false) w := by kernel_rfl
theorem int_nil (n : Int) (w : World) : (binOp .eql 20 (.iface 2 (.int .i64 n)) .nilIface).run Try.prog w = .ok (.bool false) w := by kernel_rfl
theorem halt_is (R : Nat) (w : World) : (Instr.typeAssert (haltV R) 20 103 true).run Try.prog w = .ok (.tuple #[.agg #[ptrR R], .bool true]) w := by kernel_rfl
theorem int_isnt (n : Int) (w : World) : (Instr.typeAssert (.iface 2 (.int .i64 n)) 20 103 true).run Try.prog w = .ok (.tuple #[.agg #[.pointer none], .bool false]) w := by kernel_rfl

theorem same_ptr (a : Addr) (w : World) : (binOp .neq 55 (.pointer (some a)) (.pointer (some a))).run Try.prog w = .ok (.bool false) w := by
  obtain ⟨j, hj⟩ := Option.isSome_iff_exists.1 (by kernel_rfl : (Try.prog.info? 94).isSome = true)
  exact Lib.run_neq_ptr_same w a Try.underlying55 hj

theorem catch_idle (b : Nat) (w : World) :
    CallsD Try.prog 55 #[.pointer (some ⟨b, 0, none⟩)] .returning w fun e u' w' => e = .returned (.tuple #[]) ∧ u' = .returning ∧ w' = w := by
  have q := nil_nil
  refine callsD_of_wpS Try.func55 rfl fun c₀ cs hu => ?_
  apply wpS_seq
  apply wpS_region
  simp [wpOpsS, go_sem, recoverD, hu, Try.ntmps55, Exit.thenS, Array.replicate]
  refine wpS_of_wp ?_
  go_wp2
  cases c₀
  simp_all [bodyPostS, results, Try.results55]

theorem catch_halt (b R : Nat) (older : List PanicEntry) (w : World) (hb : w.cell? ⟨b, 0, none⟩ = some (ptrR R)) :
    CallsD Try.prog 55 #[.pointer (some ⟨b, 0, none⟩)] (.panicking ({ v := haltV R, recovered := false } :: older)) w fun e u' w' =>
      e = .returned (.tuple #[]) ∧ u' = .panicking ({ v := haltV R, recovered := true } :: older) ∧ Below w.heap.size w w' := by
  have q := halt_nil R
  have q2 := halt_is R
  have q3 := same_ptr ⟨R, 0, none⟩
  have hb2 : (w.alloc (.cells #[.pointer (some ⟨R, 0, none⟩)] 103)).cell? ⟨b, 0, none⟩ = some (.pointer (some ⟨R, 0, none⟩)) := (World.cell?_alloc_past _ _ _ (World.block_lt_of_cell? _ _ hb)).trans hb
  clear hb
  refine callsD_of_wpS Try.func55 rfl fun c₀ cs hu => ?_
  apply wpS_seq
  apply wpS_region
  simp [wpOpsS, go_sem, recoverD, hu, Try.ntmps55, Exit.thenS, Array.replicate]
  refine wpS_of_wp ?_
  go_wp2
  simp [bodyPostS, results, Try.results55]
  exact (Below.refl _ _).alloc (Nat.le_refl _) _
theorem catch_other (b : Nat) (m : Int) (older : List PanicEntry) (w : World) :
    CallsD Try.prog 55 #[.pointer (some ⟨b, 0, none⟩)] (.panicking ({ v := .iface 2 (.int .i64 m), recovered := false } :: older)) w fun e u' w' =>
      e = .panicked [{ v := .iface 2 (.int .i64 m), recovered := false }] ∧ u' = .panicking ({ v := .iface 2 (.int .i64 m), recovered := true } :: older) ∧ Below w.heap.size w w' := by
  have q := int_nil m
  have q2 := int_isnt m
  refine callsD_of_wpS Try.func55 rfl fun c₀ cs hu => ?_
  apply wpS_seq
  apply wpS_region
  simp [wpOpsS, go_sem, recoverD, hu, Try.ntmps55, Exit.thenS, Array.replicate]
  refine wpS_of_wp ?_
  go_wp2
  simp [bodyPostS]
  exact (Below.refl _ _).alloc (Nat.le_refl _) _

/-- The function that is handed in has a body. -/
def Body (F : Nat) : Prop := ∀ (args : Array Value) (w : World), (callFunc F args).run Try.prog w = .ok (.enter F args) w
/-- What is done with a reader, where it comes back. -/
theorem run_ret (F : Nat) (hF : Body F) (cap : Array Value) (Post : World → Prop) (w : World)
    (hdo : Calls Try.prog F (#[ptrR R] ++ cap) (w.alloc (.cells #[ptrR R] 55)) fun e w' => e = .returned (.tuple #[]) ∧ Post w') :
    Calls Try.prog 43 #[ptrR R, .func (.func F) #[] cap] w fun e w' => e = .returned (.tuple #[]) ∧ Post w' := by
  have hmf : ∀ (fn : Fn) (first cap : Array Value) (w : World), (Instr.makeFunc fn first cap).run Try.prog w = .ok (.func fn first cap) w := fun _ _ _ _ => rfl
  have HD := Lib.hid hdo
  clear hdo
  unfold Body at hF
  go_enter_defers Try.func43, Try.ntmps43
  go_wp2_with fail
  refine HD.out.mono ?_
  rintro e w' ⟨rfl, hp⟩
  have HP := Lib.hid hp
  clear hp HD hF
  go_wp2
  refine leaves_cons (f := 55) (args := #[.pointer (some ⟨w.heap.size, 0, none⟩)]) (by simp) (by simp [go_sem]) ?_
  refine (catch_idle w.heap.size _).mono ?_
  rintro e u' w'' ⟨rfl, rfl, rfl⟩
  simp [Leaves, settle, results, Try.results43, go_sem]
  exact HP.out
/-- .. where it can't go on. -/
theorem run_halt (F : Nat) (hF : Body F) (cap : Array Value) (Post : World → Prop) (w : World)
    (hdo : Calls Try.prog F (#[ptrR R] ++ cap) (w.alloc (.cells #[ptrR R] 55)) fun e w' => e = halted R ∧ Post w' ∧ w'.cell? ⟨w.heap.size, 0, none⟩ = some (ptrR R)) :
    Calls Try.prog 43 #[ptrR R, .func (.func F) #[] cap] w fun e w' => e = .returned (.tuple #[]) ∧ ∃ w1, Post w1 ∧ Below w1.heap.size w1 w' := by
  have hmf : ∀ (fn : Fn) (first cap : Array Value) (w : World), (Instr.makeFunc fn first cap).run Try.prog w = .ok (.func fn first cap) w := fun _ _ _ _ => rfl
  have HD := Lib.hid hdo
  clear hdo
  unfold Body at hF
  go_enter_defers Try.func43, Try.ntmps43
  go_wp2_with fail
  refine HD.out.mono ?_
  rintro e w' ⟨rfl, hp, hc⟩
  have HP := Lib.hid hp
  clear hp HD hF
  go_wp2
  refine leaves_cons (f := 55) (args := #[.pointer (some ⟨w.heap.size, 0, none⟩)]) (by simp) (by simp [go_sem]) ?_
  refine (catch_halt w.heap.size R [] _ hc).mono ?_
  rintro e u' w'' ⟨rfl, rfl, hb⟩
  simp [Leaves, settle, results, Try.results43, go_sem]
  exact ⟨_, HP.out, hb⟩
/-- .. where something else is thrown. -/
theorem run_other (F : Nat) (hF : Body F) (cap : Array Value) (Post : World → Prop) (m : Int) (w : World)
    (hdo : Calls Try.prog F (#[ptrR R] ++ cap) (w.alloc (.cells #[ptrR R] 55)) fun e w' => e = .panicked [{ v := .iface 2 (.int .i64 m), recovered := false }] ∧ Post w') :
    Calls Try.prog 43 #[ptrR R, .func (.func F) #[] cap] w fun e w' =>
      e = .panicked [{ v := .iface 2 (.int .i64 m), recovered := false }, { v := .iface 2 (.int .i64 m), recovered := true }] ∧ ∃ w1, Post w1 ∧ Below w1.heap.size w1 w' := by
  have hmf : ∀ (fn : Fn) (first cap : Array Value) (w : World), (Instr.makeFunc fn first cap).run Try.prog w = .ok (.func fn first cap) w := fun _ _ _ _ => rfl
  have HD := Lib.hid hdo
  clear hdo
  unfold Body at hF
  go_enter_defers Try.func43, Try.ntmps43
  go_wp2_with fail
  refine HD.out.mono ?_
  rintro e w' ⟨rfl, hp⟩
  have HP := Lib.hid hp
  clear hp HD hF
  go_wp2
  refine leaves_cons (f := 55) (args := #[.pointer (some ⟨w.heap.size, 0, none⟩)]) (by simp) (by simp [go_sem]) ?_
  refine (catch_other w.heap.size m [] _).mono ?_
  rintro e u' w'' ⟨rfl, rfl, hb⟩
  simp [Leaves, raised, go_sem]
  exact ⟨_, HP.out, hb⟩
end Go.Proofs.Ytoafmbjdchkahaa
