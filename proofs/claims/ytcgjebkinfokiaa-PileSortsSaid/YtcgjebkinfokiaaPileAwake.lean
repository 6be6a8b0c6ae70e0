/- The fixed fact on piles holds; none at all: nothing is put, nothing taken. -/
import Derived.Test.YtcgjebkinfokiaaHave
namespace Go.Proofs.Ytcgjebkinfokiaa
open Go.RowKit

theorem first_ex (x : It) (l' : List It) (h : [((1, 3) : It), (1, 9), (2, 5)].Perm (x :: l')) (hl : ∀ y ∈ [((1, 3) : It), (1, 9), (2, 5)], Le x y) : x = (1, 3) ∧ l'.length = 2 := by
  have hx : x ∈ [((1, 3) : It), (1, 9), (2, 5)] := h.mem_iff.2 (by simp)
  have h1 := hl (1, 3) (by simp)
  have hlen := h.length_eq
  refine ⟨?_, by simpa using hlen.symm⟩
  simp only [List.mem_cons, List.not_mem_nil, or_false] at hx
  rcases hx with rfl | rfl | rfl
  · rfl
  · unfold Le at h1; simp at h1
  · unfold Le at h1; simp at h1

set_option maxHeartbeats 2000000 in
set_option maxRecDepth 100000 in
theorem pile_awake (w : World) : Calls Try.prog 6 #[] w fun e w' => e = .returned (.bool true) ∧ Below w.heap.size w w' := by
  have H0 : Hid (Have w w.heap.size (.slice none 0 0) [] (w.alloc (.cells #[.slice none 0 0] 46))) := Lib.hid (Have.new (Below.refl _ _))
  have P1 : Hid (∀ (W : World) v, Have w w.heap.size v [] W → Calls Try.prog 8 #[.pointer (some ⟨w.heap.size, 0, none⟩), .agg #[.int .i64 2, .int .i64 5]] W fun e W' => e = .returned (.tuple #[]) ∧ ∃ v', Have w w.heap.size v' [(2, 5)] W') := Lib.hid fun W v h => (put_have (2, 5) h (by simp)).mono fun _ _ ⟨he, v', h', _⟩ => ⟨he, v', h'⟩
  have P2 : Hid (∀ (W : World) v, Have w w.heap.size v [(2, 5)] W → Calls Try.prog 8 #[.pointer (some ⟨w.heap.size, 0, none⟩), .agg #[.int .i64 1, .int .i64 9]] W fun e W' => e = .returned (.tuple #[]) ∧ ∃ v', Have w w.heap.size v' [(1, 9), (2, 5)] W') := Lib.hid fun W v h => (put_have (1, 9) h (by simp)).mono fun _ _ ⟨he, v', h', _⟩ => ⟨he, v', h'⟩
  have P3 : Hid (∀ (W : World) v, Have w w.heap.size v [(1, 9), (2, 5)] W → Calls Try.prog 8 #[.pointer (some ⟨w.heap.size, 0, none⟩), .agg #[.int .i64 1, .int .i64 3]] W fun e W' => e = .returned (.tuple #[]) ∧ ∃ v', Have w w.heap.size v' [(1, 3), (1, 9), (2, 5)] W') := Lib.hid fun W v h => (put_have (1, 3) h (by simp)).mono fun _ _ ⟨he, v', h', _⟩ => ⟨he, v', h'⟩
  have T1 : Hid (∀ (W : World) v, Have w w.heap.size v [(1, 3), (1, 9), (2, 5)] W → Calls Try.prog 9 #[.pointer (some ⟨w.heap.size, 0, none⟩)] W fun e W' => e = .returned (.tuple #[.agg #[.int .i64 1, .int .i64 3], .bool true]) ∧ ∃ v' l', l'.length = 2 ∧ Have w w.heap.size v' l' W') := Lib.hid fun W v h => (take_have h (by simp) (by simp)).mono fun e W' ⟨x, l', he, hp, hl, v', h', _⟩ => by
    obtain ⟨rfl, h2⟩ := first_ex x l' hp hl
    exact ⟨he, v', l', h2, h'⟩
  have hE : ∀ W, (Op.equalIn 10000 31 (.agg #[.int .i64 1, .int .i64 3]) (.agg #[.int .i64 1, .int .i64 3])).run Try.prog W = .ok true W := fun W => eq_it (1, 3) (1, 3) W
  have hG := guard_it
  go_enter Try.func6, Try.ntmps6
  go_wp2_with (go_at_call 7; refine (new_any _).mono ?_; rintro e w1 ⟨rfl, rfl⟩)
  refine (P1.out _ _ H0.out).mono ?_
  rintro e w1 ⟨rfl, v1, h1⟩
  have H1 := Lib.hid h1; clear h1 H0 P1
  go_wp2_with fail
  refine (P2.out _ _ H1.out).mono ?_
  rintro e w2 ⟨rfl, v2, h2⟩
  have H2 := Lib.hid h2; clear h2 H1 P2
  go_wp2_with fail
  refine (P3.out _ _ H2.out).mono ?_
  rintro e w3 ⟨rfl, v3, h3⟩
  have H3 := Lib.hid h3; clear h3 H2 P3
  go_wp2_with fail
  refine (T1.out _ _ H3.out).mono ?_
  rintro e w4 ⟨rfl, v4, l4, hl4, h4⟩
  have H4 : Hid (Have w w.heap.size v4 l4 (w4.alloc (.cells #[.int .i64 1, .int .i64 3] 31))) := Lib.hid (h4.later ((Below.refl _ _).alloc (Nat.le_refl _) _))
  have HL : Hid (Calls Try.prog 12 #[.pointer (some ⟨w.heap.size, 0, none⟩)] (w4.alloc (.cells #[.int .i64 1, .int .i64 3] 31)) fun e W' => e = .returned (.int .i64 2) ∧ w4.alloc (.cells #[.int .i64 1, .int .i64 3] 31) = W') := Lib.hid (by have := len_have H4.out; rw [hl4] at this; exact this)
  clear h4 hl4 H3 T1
  go_wp2_with (go_at_call 12; refine HL.out.mono ?_; rintro e w5 ⟨rfl, rfl⟩)
  go_ret
  exact ⟨rfl, H4.out.below⟩

set_option maxHeartbeats 2000000 in
theorem pileNil_walk (key id : Int) (w : World) : Calls Try.prog 5 #[.int .i64 key, .int .i64 id] w fun e w' => e = .returned (.bool true) ∧ Below w.heap.size w w' := by
  have hE : ∀ W, (Op.equalIn 10000 31 (.agg #[.int .i64 0, .int .i64 0]) (.agg #[.int .i64 0, .int .i64 0])).run Try.prog W = .ok true W := fun W => eq_it (0, 0) (0, 0) W
  have hG := guard_it
  go_enter Try.func5, Try.ntmps5
  go_wp2_with fail
  refine (pile_awake _).mono ?_
  rintro e w1 ⟨rfl, hb1⟩
  have HB1 := Lib.hid hb1; clear hb1
  go_wp2_with fail
  refine (put_nil (key, id) _).mono ?_
  rintro e w2 ⟨rfl, hb2⟩
  have HB2 := Lib.hid (HB1.out.trans (hb2.mono HB1.out.size)); clear hb2 HB1
  go_wp2_with fail
  refine (take_nil _).mono ?_
  rintro e w3 ⟨rfl, hb3⟩
  have HB3 := Lib.hid ((HB2.out.trans (hb3.mono HB2.out.size)).alloc (HB2.out.trans (hb3.mono HB2.out.size)).size (.cells #[.int .i64 0, .int .i64 0] 31)); clear hb3 HB2
  go_wp2_with (go_at_call 12; refine (plen_nil _).mono ?_; rintro e w5 ⟨rfl, rfl⟩)
  go_ret
  exact ⟨rfl, HB3.out⟩
end Go.Proofs.Ytcgjebkinfokiaa
