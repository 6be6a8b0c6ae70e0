/- Package order: Late, where nothing can be told. -/
import Derived.Test.YtgoegkajfhhcjaaOSorts
import Derived.Test.YtgoegkajfhhcjaaOBad
namespace Go.Proofs.Ytgoegkajfhhcjaa
open Go.RowKit

variable {len N m c : Nat} {l : List Ar} {xs : List Int} {n : Int} {o : List Nat}
theorem osort_no (hc : checkV (N : Int) l = 0) (ho : Stuck l N o) (cap : Nat) (a : Option Addr) (w : World) (hl : IsArcs w.heap.size w a len l) :
    Calls Try.prog 10 #[.agg #[.int .i64 (N : Int), .slice a len cap]] w fun e w' => Below w.heap.size w w' ∧ ∃ a1 c1, e = .returned (.tuple #[.slice a1 0 c1, .bool false]) :=
  (osort_ok N len cap l a w hc hl).mono fun e w' ⟨hb, h⟩ => ⟨hb, by
    rcases h with ⟨_, out, _, h2, _⟩ | ⟨a1, c1, _, h1, _⟩
    · exact (ho.not_whole h2).elim
    · exact ⟨a1, c1, h1⟩⟩
theorem osort_yes (hc : checkV (N : Int) l = 0) (ho : Whole l N o) (cap : Nat) (a : Option Addr) (w : World) (hl : IsArcs w.heap.size w a len l) :
    Calls Try.prog 10 #[.agg #[.int .i64 (N : Int), .slice a len cap]] w fun e w' => Below w.heap.size w w' ∧ ∃ va vc, e = .returned (.tuple #[.slice va N vc, .bool true]) ∧ w'.ownsRow w.heap.size 3 1 (.slice va N vc) (nodesV o).length (numsV (nodesV o)) :=
  (osort_ok N len cap l a w hc hl).mono fun e w' ⟨hb, h⟩ => ⟨hb, by
    rcases h with ⟨v, out, h1, h2, h3⟩ | ⟨_, _, _, _, h2⟩
    · have := h2.unique ho
      subst this
      obtain ⟨va, vc, hv⟩ := owns_shape h3
      rw [nodesV_length, h2.2] at hv
      subst hv
      exact ⟨va, vc, h1, h3⟩
    · exact (h2.not_whole ho).elim⟩

set_option maxHeartbeats 1000000 in
theorem late_size (cap : Nat) (a : Option Addr) (b : Option Addr) (w : World) (hn : ¬ (m : Int) = n) :
    Calls Try.prog 16 #[.agg #[.int .i64 n, .slice a len cap], .slice b m c] w fun e w' => Below w.heap.size w w' ∧ e = .returned (.tuple #[.slice none 0 0, .int .i64 4]) := by
  have HG := Lib.hid (Box.make (Below.refl _ w) n a len cap)
  have hnb : ((m : Int) != n) = true := by simpa using hn
  go_enter Try.func16, Try.ntmps16
  go_wp2_with fail
  go_ret2
  exact ⟨HG.out.below, rfl⟩
set_option maxHeartbeats 1000000 in
theorem late_check (cap : Nat) (a : Option Addr) (b : Option Addr) (w : World) (hc : checkV (m : Int) l ≠ 0) (hl : IsArcs w.heap.size w a len l) :
    Calls Try.prog 16 #[.agg #[.int .i64 (m : Int), .slice a len cap], .slice b m c] w fun e w' => Below w.heap.size w w' ∧ e = .returned (.tuple #[.slice none 0 0, .int .i64 (checkV (m : Int) l)]) := by
  have HG := Lib.hid (Box.make (Below.refl _ w) (m : Int) a len cap)
  have HL := Lib.hid hl; clear hl
  have hcb : (checkV (m : Int) l != 0) = true := by simpa using hc
  have HCA := Lib.hid (fun (W : World) (h : IsArcs W.heap.size W a len l) => check_any (m : Int) cap a W h)
  generalize checkV (m : Int) l = v at *
  clear hc
  go_enter Try.func16, Try.ntmps16
  go_wp2_with (go_at_call 19; refine (HCA.out _ (HG.out.arcsHere HL.out)).mono ?_; rintro e w1 ⟨rfl, hb1⟩; have HG1 := Lib.hid (HG.out.later hb1); clear hb1)
  go_ret2
  exact ⟨HG1.out.below, rfl⟩
set_option maxHeartbeats 1000000 in
theorem late_range (cap : Nat) (a : Option Addr) (b : Option Addr) (w : World) (hm : m ≤ 9223372036854775807) (hc : checkV (m : Int) l = 0) (hf : ∃ x ∈ xs, farB x = true) (hl : IsArcs w.heap.size w a len l) (hi : IsInts w.heap.size w b m xs) :
    Calls Try.prog 16 #[.agg #[.int .i64 (m : Int), .slice a len cap], .slice b m c] w fun e w' => Below w.heap.size w w' ∧ e = .returned (.tuple #[.slice none 0 0, .int .i64 2]) := by
  have HG := Lib.hid (Box.make (Below.refl _ w) (m : Int) a len cap)
  have HL := Lib.hid hl; clear hl
  have HI := Lib.hid hi; clear hi
  have HF := Lib.hid hf; clear hf
  have HCK := Lib.hid (check_any (m : Int) cap a _ (HG.out.arcsHere HL.out))
  rw [hc] at HCK
  clear hc
  go_enter Try.func16, Try.ntmps16
  go_wp2_with (first
    | (go_at_call 19; refine HCK.out.mono ?_; rintro e w1 ⟨rfl, hb1⟩; have HG1 := Lib.hid (HG.out.later hb1); have HI1 := Lib.hid (IsInts.to_ HI.out HG1.out.below); clear hb1)
    | (go_at_call 24; refine (contains_far b c _ hm HI1.out HF.out).mono ?_; rintro e w2 ⟨rfl, rfl⟩))
  go_ret2
  exact ⟨HG1.out.below, rfl⟩
set_option maxHeartbeats 1000000 in
theorem late_cyc (cap : Nat) (a : Option Addr) (b : Option Addr) (w : World) (hm : m ≤ 9223372036854775807) (hc : checkV (m : Int) l = 0) (hf : ∀ x ∈ xs, farB x = false) (ho : Stuck l m o) (hl : IsArcs w.heap.size w a len l) (hi : IsInts w.heap.size w b m xs) :
    Calls Try.prog 16 #[.agg #[.int .i64 (m : Int), .slice a len cap], .slice b m c] w fun e w' => Below w.heap.size w w' ∧ e = .returned (.tuple #[.slice none 0 0, .int .i64 7]) := by
  have HG := Lib.hid (Box.make (Below.refl _ w) (m : Int) a len cap)
  have HL := Lib.hid hl; clear hl
  have HI := Lib.hid hi; clear hi
  have HF := Lib.hid hf; clear hf
  have HC := Lib.hid hc
  have HO := Lib.hid ho
  have HCK := Lib.hid (check_any (m : Int) cap a _ (HG.out.arcsHere HL.out))
  rw [hc] at HCK
  clear hc ho
  go_enter Try.func16, Try.ntmps16
  go_wp2_with (first
    | (go_at_call 19; refine HCK.out.mono ?_; rintro e w1 ⟨rfl, hb1⟩; have HG1 := Lib.hid (HG.out.later hb1); have HI1 := Lib.hid (IsInts.to_ HI.out HG1.out.below); have x0 := HG1.out.c0; have x1 := HG1.out.c1; clear hb1)
    | (go_at_call 24; refine (contains_near b c _ hm HI1.out HF.out).mono ?_; rintro e w2 ⟨rfl, rfl⟩)
    | (go_at_call 10; refine (osort_no HC.out HO.out cap a _ (HG1.out.arcsHere HL.out)).mono ?_; rintro e w3 ⟨hb3, a1, c1, rfl⟩; have HG3 := Lib.hid (HG1.out.later hb3); clear hb3))
  go_ret2
  exact ⟨HG3.out.below, rfl⟩
theorem late_bad (n : Int) (len cap : Nat) (l : List Ar) (a : Option Addr) (m c : Nat) (xs : List Int) (b : Option Addr) (w : World) (he : lateErr n l xs ≠ 0) (hl : IsArcs w.heap.size w a len l) (hi : IsInts w.heap.size w b m xs) (hm : m ≤ 9223372036854775807) :
    Calls Try.prog 16 #[.agg #[.int .i64 n, .slice a len cap], .slice b m c] w fun e w' => Below w.heap.size w w' ∧ ∃ a1 c1, e = .returned (.tuple #[.slice a1 0 c1, .int .i64 (lateErr n l xs)]) := by
  have hxl := hi.1
  by_cases h1 : (m : Int) = n
  · subst h1
    by_cases h2 : checkV (m : Int) l = 0
    · by_cases h3 : ∃ x ∈ xs, farB x = true
      · have h3' : ∃ x ∈ xs, x < -1125899906842624 ∨ 1125899906842624 < x := by
          obtain ⟨x, hx, hb⟩ := h3
          exact ⟨x, hx, farB_true.1 hb⟩
        have e : lateErr (m : Int) l xs = 2 := by rw [lateErr, if_neg (by simp [hxl]), if_neg (by simp [h2]), if_pos h3']
        rw [e]
        exact (late_range cap a b w hm h2 h3 hl hi).mono fun e w' ⟨hb, he⟩ => ⟨hb, _, _, he⟩
      · have h3' : ¬ ∃ x ∈ xs, x < -1125899906842624 ∨ 1125899906842624 < x := fun ⟨x, hx, hb⟩ => h3 ⟨x, hx, farB_true.2 hb⟩
        have h4 : ∀ x ∈ xs, farB x = false := fun x hx => by
          cases hb : farB x with
          | false => rfl
          | true => exact absurd ⟨x, hx, hb⟩ h3
        have hmt : (m : Int).toNat = m := by simp
        obtain ⟨o, ho⟩ := whole_or_stuck l m
        rcases ho with ho | ho
        · exfalso
          refine he ?_
          rw [lateErr, if_neg (by simp [hxl]), if_neg (by simp [h2]), if_neg h3', if_neg]
          rintro ⟨out, h5⟩
          rw [hmt] at h5
          exact h5.not_whole ho
        · have e : lateErr (m : Int) l xs = 7 := by rw [lateErr, if_neg (by simp [hxl]), if_neg (by simp [h2]), if_neg h3', if_pos ⟨o, by rw [hmt]; exact ho⟩]
          rw [e]
          exact (late_cyc cap a b w hm h2 h4 ho hl hi).mono fun e w' ⟨hb, he⟩ => ⟨hb, _, _, he⟩
    · have e : lateErr (m : Int) l xs = checkV (m : Int) l := by rw [lateErr, if_neg (by simp [hxl]), if_pos h2]
      rw [e]
      exact (late_check cap a b w h2 hl).mono fun e w' ⟨hb, he⟩ => ⟨hb, _, _, he⟩
  · have e : lateErr n l xs = 4 := by rw [lateErr, if_pos (by rw [hxl]; exact h1)]
    rw [e]
    exact (late_size cap a b w h1).mono fun e w' ⟨hb, he⟩ => ⟨hb, _, _, he⟩
end Go.Proofs.Ytgoegkajfhhcjaa
