/- A pile's calls, told by what lies in it. -/
import Derived.Test.YtgoegkajfhhcjaaPile
import Derived.Laws.StructEq
namespace Go.Proofs.Ytgoegkajfhhcjaa
open Go.RowKit
open Go.Sort (swp HoldsK putRowK flatK)

/-- In block b lies a pile of just these things, made since w0. -/
structure Have (w0 : World) (b : Nat) (v : Value) (l : List It) (W : World) : Prop where
  all : ∃ d, PileW W w0.heap.size b v d ∧ HeapB d.size d ∧ d.toList.Perm l
  below : Below w0.heap.size w0 W
  from_ : w0.heap.size ≤ b
/-- What a call on the pile may have turned, and where the row lies then. -/
structure Turned (b : Nat) (v v' : Value) (W W' : World) : Prop where
  mod : Mod (pileS b v) W W'
  fresh : v'.ownBlock = v.ownBlock ∨ ∃ g, v'.ownBlock = some g ∧ W.heap.size ≤ g

theorem Have.lt {w0 W : World} {b : Nat} {v : Value} {l : List It} (h : Have w0 b v l W) : b < W.heap.size := by
  obtain ⟨⟨d, hP, _⟩, _⟩ := h
  exact hP.lt
theorem Have.own {w0 W : World} {b : Nat} {v : Value} {l : List It} (h : Have w0 b v l W) : ∀ k, v.ownBlock = some k → w0.heap.size ≤ k ∧ k < W.heap.size := by
  obtain ⟨⟨d, hP, _⟩, _⟩ := h
  exact World.ownsRow.lt hP.row
theorem Have.kept {w0 W W' : World} {b : Nat} {v : Value} {l : List It} {S : Nat → Prop} (h : Have w0 b v l W) (hm : Mod S W W') (hb : ¬ S b) (hs : ∀ k, v.ownBlock = some k → ¬ S k) (h0 : ∀ k, S k → w0.heap.size ≤ k) : Have w0 b v l W' := by
  obtain ⟨⟨d, hP, r⟩, hB, hf⟩ := h
  exact ⟨⟨d, hP.kept hm hb hs, r⟩, hB.trans (hm.below hB.size h0), hf⟩
theorem Have.later {w0 W W' : World} {b : Nat} {v : Value} {l : List It} (h : Have w0 b v l W) (hm : Below W.heap.size W W') : Have w0 b v l W' :=
  h.kept (Mod.of_below (fun _ => False) hm) (fun h => h) (fun _ _ h => h) (fun _ h => h.elim)
theorem Have.new {w0 W : World} (h : Below w0.heap.size w0 W) : Have w0 W.heap.size (.slice none 0 0) [] (W.alloc (.cells #[.slice none 0 0] 78)) :=
  ⟨⟨#[], PileW.new W _, heap_nil _, List.Perm.refl _⟩, h.alloc h.size _, h.size⟩

theorem put_have {w0 W : World} {b : Nat} {v : Value} {l : List It} (x : It) (h : Have w0 b v l W) (hl : l.length ≤ 2000) :
    Calls Try.prog 30 #[.pointer (some ⟨b, 0, none⟩), .agg #[.int .i64 x.1, .int .i64 x.2]] W fun e W' => e = .returned (.tuple #[]) ∧ ∃ v', Have w0 b v' (x :: l) W' ∧ Turned b v v' W W' := by
  have hown := h.own
  obtain ⟨⟨d, hP, hh, hp⟩, hB, hf⟩ := h
  have hs : d.size = l.length := by simpa using hp.length_eq
  refine (put_any b w0.heap.size v d x W (by omega) hP hh hB.size).mono ?_
  rintro e W' ⟨rfl, g, cap, dk, hP', hs', hh', hp', hM, hfr⟩
  refine ⟨rfl, _, ⟨⟨dk, hP', hh', hp'.trans (hp.cons x)⟩, hB.trans (hM.below hB.size ?_), hf⟩, ⟨hM, ?_⟩⟩
  · rintro k (hk | hk)
    · omega
    · exact (hown k hk).1
  · rcases hfr with h | h
    · exact .inl h.symm
    · exact .inr ⟨g, rfl, h⟩
theorem take_have {w0 W : World} {b : Nat} {v : Value} {l : List It} (h : Have w0 b v l W) (h0 : 0 < l.length) (hl : l.length ≤ 2000) :
    Calls Try.prog 31 #[.pointer (some ⟨b, 0, none⟩)] W fun e W' => ∃ x : It, ∃ l', e = .returned (.tuple #[.agg #[.int .i64 x.1, .int .i64 x.2], .bool true]) ∧ l.Perm (x :: l') ∧ (∀ y ∈ l, Le x y) ∧ ∃ v', Have w0 b v' l' W' ∧ Turned b v v' W W' := by
  have hown := h.own
  obtain ⟨⟨d, hP, hh, hp⟩, hB, hf⟩ := h
  have hs : d.size = l.length := by simpa using hp.length_eq
  refine (take_some b w0.heap.size (d.size - 1) v W d (by omega) (by omega) hP hh).mono ?_
  rintro e W' ⟨rfl, v', dk, hP', hs', hh', hp', hM, hfr⟩
  refine ⟨d[0]!, dk.toList, rfl, hp.symm.trans hp', fun y hy => heap_least hh y (hp.mem_iff.2 hy), v', ⟨⟨dk, hP', hh', List.Perm.refl _⟩, hB.trans (hM.below hB.size ?_), hf⟩, ⟨hM, .inl hfr⟩⟩
  rintro k (hk | hk)
  · omega
  · exact (hown k hk).1
theorem take_empty {w0 W : World} {b : Nat} {v : Value} (h : Have w0 b v [] W) :
    Calls Try.prog 31 #[.pointer (some ⟨b, 0, none⟩)] W fun e W' => e = .returned (.tuple #[.agg #[.int .i64 0, .int .i64 0], .bool false]) ∧ Below W.heap.size W W' := by
  obtain ⟨⟨d, hP, hh, hp⟩, hB, hf⟩ := h
  have hs : d.size = 0 := by simpa using hp.length_eq
  exact take_none b w0.heap.size v W d hs hP
theorem len_have {w0 W : World} {b : Nat} {v : Value} {l : List It} (h : Have w0 b v l W) :
    Calls Try.prog 37 #[.pointer (some ⟨b, 0, none⟩)] W fun e W' => e = .returned (.int .i64 l.length) ∧ W = W' := by
  obtain ⟨⟨d, hP, hh, hp⟩, hB, hf⟩ := h
  have hs : d.size = l.length := by simpa using hp.length_eq
  rw [← hs]
  exact plen_any hP

/-! ### Are two things the same? -/
def eqB (x y : It) : Bool := x.1 == y.1 && x.2 == y.2
theorem eqB_yes {x y : It} : eqB x y = true ↔ x = y := by
  unfold eqB
  simp [Prod.ext_iff]
theorem eqB_no {x y : It} (h : x ≠ y) : eqB x y = false := by
  cases hb : eqB x y with
  | false => rfl
  | true => exact absurd (eqB_yes.1 hb) h
theorem eq_it (x y : It) (w : World) : (Op.equalIn 10000 66 (.agg #[.int .i64 x.1, .int .i64 x.2]) (.agg #[.int .i64 y.1, .int .i64 y.2])).run Try.prog w = .ok (eqB x y) w := by
  have u2 := Try.underlying2
  have u3 := Try.underlying3
  have hS : Try.prog.underlying 66 = some (.struct (Try.prog.fieldsOf 66)) := by kernel_rfl
  have hp : Try.prog.stoodInHeld 66 = false := by kernel_rfl
  rw [show (10000 : Nat) = 9999 + 1 from rfl, run_equalIn_agg w 9999 66 _ _ hS hp]
  simp only [Program.fieldsOf, Try.underlying66]
  unfold eqB
  go_simp
  by_cases h1 : x.1 = y.1 <;> by_cases h2 : x.2 = y.2 <;> simp [h1, h2]
theorem guard_it : Try.prog.eqGuardType Try.prog.depth 66 = false := by kernel_rfl
end Go.Proofs.Ytgoegkajfhhcjaa
