/- Package order: Late, where nothing can be told. -/
import Derived.Test.YtgoegkajfhhcjaaOrderSpec
import Derived.Deep.QuietTactic
import Derived.Deep.RegionWith
import Derived.Deep.LoopGhost
import Derived.LoopTactic
import Derived.Lib.Hide
import Derived.Test.YtgoegkajfhhcjaaOSorts
namespace Go.Proofs.Ytgoegkajfhhcjaa
section part
open Go.RowKit

/-- Too far. -/
def farB (x : Int) : Bool := decide (x < -1125899906842624 ∨ 1125899906842624 < x)
theorem farB_true {x : Int} : farB x = true ↔ x < -1125899906842624 ∨ 1125899906842624 < x := by simp [farB]
variable {m k : Nat} {xs : List Int} {x : Int}
theorem IsInts.to_ {w w2 : World} {a : Option Addr} (h : IsInts w.heap.size w a m xs) (hb : Below w.heap.size w w2) : IsInts w2.heap.size w2 a m xs := by
  have h2 := h.later hb
  refine ⟨h2.1, ?_⟩
  rcases h2.2 with h0 | ⟨b, off, e, h3, h4⟩
  · exact .inl h0
  · exact .inr ⟨b, off, e, Nat.lt_of_lt_of_le h3 hb.size, h4⟩
theorem late1_any (x : Int) (w : World) :
    Calls Try.prog 25 #[.int .i64 x] w fun e w' => w' = w ∧ e = .returned (.bool (farB x)) := by
  by_cases h1 : x < -1125899906842624
  · have HB : Hid (farB x = true) := Lib.hid (farB_true.2 (.inl h1))
    go_enter Try.func25, Try.ntmps25
    go_wp2_with fail
    go_ret
    exact ⟨rfl, by rw [HB.out]; rfl⟩
  · by_cases h2 : 1125899906842624 < x
    · have HB : Hid (farB x = true) := Lib.hid (farB_true.2 (.inr h2))
      go_enter Try.func25, Try.ntmps25
      go_wp2_with fail
      go_ret
      exact ⟨rfl, by rw [HB.out]; rfl⟩
    · have HB : Hid (farB x = false) := Lib.hid (by cases hb : farB x with | false => rfl | true => have := farB_true.1 hb; omega)
      go_enter Try.func25, Try.ntmps25
      go_wp2_with fail
      go_ret
      exact ⟨rfl, by rw [HB.out]; rfl⟩
/-- The first that is too far; -1. -/
def farAt (xs : List Int) : Int := match xs.findIdx? farB with
  | some i => (i : Int)
  | none => -1
theorem farAt_yes (hx : xs[k]? = some x) (hb : farB x = true) (h : ∀ y ∈ xs.take k, farB y = false) : farAt xs = (k : Int) := by
  unfold farAt
  have : xs.findIdx? farB = some k := by
    rw [List.findIdx?_eq_some_iff_getElem]
    obtain ⟨hk, rfl⟩ := List.getElem?_eq_some_iff.1 hx
    refine ⟨hk, hb, fun j hj => ?_⟩
    have := h xs[j] (by rw [List.mem_take_iff_getElem]; exact ⟨j, by omega, rfl⟩)
    simp [this]
  rw [this]
theorem farAt_no (h : ∀ y ∈ xs, farB y = false) : farAt xs = -1 := by
  unfold farAt
  rw [List.findIdx?_eq_none_iff.2 h]
set_option maxHeartbeats 1000000 in
theorem indexFunc_any (b : Option Addr) (c : Nat) (w : World) (hm : m ≤ 9223372036854775807) (hi : IsInts w.heap.size w b m xs) :
    Calls Try.prog 35 #[.slice b m c, .func (.func 25) #[] #[]] w fun e w' => w' = w ∧ e = .returned (.int .i64 (farAt xs)) := by
  have HI := Lib.hid hi
  have HB0 : Hid (∀ y ∈ xs.take 0, farB y = false) := Lib.hid (fun y hy => by simp at hy)
  clear hi
  go_enter Try.func35, Try.ntmps35
  go_wp2_with fail
  go_loop [8] (fun iv => ∃ k : Nat, iv = .int .i64 k ∧ k ≤ m ∧ Hid (∀ y ∈ xs.take k, farB y = false)) (fun iv => m - (intOf iv).toNat)
  case atStart => exact ⟨0, rfl, Nat.zero_le _, HB0⟩
  case round =>
    obtain ⟨k, rfl, hk, HB⟩ := hrel
    clear HB0
    by_cases hlt : k < m
    · obtain ⟨bb, off, x, rfl, hx, e0⟩ := HI.out.at_ hlt
      cases hb : farB x with
      | true =>
        have HR := Lib.hid (farAt_yes hx hb HB.out)
        have HC := Lib.hid (late1_any x w)
        rw [hb] at HC
        clear hb hx
        go_wp2_with (go_at_call 25; refine HC.out.mono ?_; rintro e w' ⟨rfl, rfl⟩)
        go_ret
        exact ⟨rfl, by rw [HR.out]; rfl⟩
      | false =>
        have HN : Hid (∀ y ∈ xs.take (k + 1), farB y = false) := Lib.hid (fun y hy => by
          rw [List.take_add_one, hx] at hy
          simp only [Option.toList_some, List.mem_append, List.mem_singleton] at hy
          rcases hy with hy | rfl
          · exact HB.out y hy
          · exact hb)
        have HC := Lib.hid (late1_any x w)
        rw [hb] at HC
        clear hb hx
        go_wp2_with (go_at_call 25; refine HC.out.mono ?_; rintro e w' ⟨rfl, rfl⟩)
        go_round
        case rel => exact ⟨k + 1, by go_num, by omega, HN⟩
        case measure => simp [intOf]; omega
    · have hk2 : xs.take k = xs := List.take_of_length_le (by have := HI.out.1; omega)
      rw [hk2] at HB
      have HR := Lib.hid (farAt_no HB.out)
      clear hk2
      go_wp2_with fail
      go_ret
      exact ⟨rfl, by rw [HR.out]; rfl⟩
theorem contains_far (b : Option Addr) (c : Nat) (w : World) (hm : m ≤ 9223372036854775807) (hi : IsInts w.heap.size w b m xs) (h : ∃ x ∈ xs, farB x = true) :
    Calls Try.prog 24 #[.slice b m c, .func (.func 25) #[] #[]] w fun e w' => w' = w ∧ e = .returned (.bool true) := by
  have hf : ∃ k : Nat, farAt xs = (k : Int) := by
    unfold farAt
    cases hq : xs.findIdx? farB with
    | some i => exact ⟨i, rfl⟩
    | none =>
      obtain ⟨x, hx, hb⟩ := h
      have := List.findIdx?_eq_none_iff.1 hq x hx
      rw [hb] at this
      cases this
  obtain ⟨k, hk⟩ := hf
  have HC := Lib.hid (indexFunc_any b c w hm hi)
  rw [hk] at HC
  clear h hi hk
  go_enter Try.func24, Try.ntmps24
  go_wp2_with (go_at_call 35; refine HC.out.mono ?_; rintro e w' ⟨rfl, rfl⟩)
  go_ret
  exact ⟨rfl, rfl⟩
theorem contains_near (b : Option Addr) (c : Nat) (w : World) (hm : m ≤ 9223372036854775807) (hi : IsInts w.heap.size w b m xs) (h : ∀ x ∈ xs, farB x = false) :
    Calls Try.prog 24 #[.slice b m c, .func (.func 25) #[] #[]] w fun e w' => w' = w ∧ e = .returned (.bool false) := by
  have HC := Lib.hid (indexFunc_any b c w hm hi)
  rw [farAt_no h] at HC
  clear h hi
  go_enter Try.func24, Try.ntmps24
  go_wp2_with (go_at_call 35; refine HC.out.mono ?_; rintro e w' ⟨rfl, rfl⟩)
  go_ret
  exact ⟨rfl, rfl⟩
end part
section part
open Go.RowKit

variable {len N m c : Nat} {l : List Ar} {xs : List Int} {n : Int} {o : List Nat}
theorem osort_no (hc : checkV (N : Int) l = 0) (ho : Stuck l N o) (cap : Nat) (a : Option Addr) (w : World) (hl : IsArcs w.heap.size w a len l) :
    Calls Try.prog 10 #[.agg #[.int .i64 (N : Int), .slice a len cap]] w fun e w' => Below w.heap.size w w' ∧ ∃ a1 c1, e = .returned (.tuple #[.slice a1 0 c1, .bool false]) :=
  (osort_ok N len cap l a w hc hl).mono fun e w' ⟨hb, h⟩ => ⟨hb, by
    rcases h with ⟨_, out, _, h2, _⟩ | ⟨a1, c1, _, h1, _⟩
    · exact (ho.not_whole h2).elim
    · exact ⟨a1, c1, h1⟩⟩
theorem osort_yes (hc : checkV (N : Int) l = 0) (ho : Whole l N o) (cap : Nat) (a : Option Addr) (w : World) (hl : IsArcs w.heap.size w a len l) :
    Calls Try.prog 10 #[.agg #[.int .i64 (N : Int), .slice a len cap]] w fun e w' => Below w.heap.size w w' ∧ ∃ va vc, e = .returned (.tuple #[.slice va N vc, .bool true]) ∧ w'.ownsRow w.heap.size 3 1 (.slice va N vc) (nodesV o).length (numsV (nodesV o)) :=
  (osort_ok N len cap l a w hc hl).mono fun e w' ⟨hb, h⟩ => ⟨hb, by
    rcases h with ⟨v, out, h1, h2, h3⟩ | ⟨_, _, _, _, h2⟩
    · have := h2.unique ho
      subst this
      obtain ⟨va, vc, hv⟩ := owns_shape h3
      rw [nodesV_length, h2.2] at hv
      subst hv
      exact ⟨va, vc, h1, h3⟩
    · exact (h2.not_whole ho).elim⟩

set_option maxHeartbeats 1000000 in
theorem late_size (cap : Nat) (a : Option Addr) (b : Option Addr) (w : World) (hn : ¬ (m : Int) = n) :
    Calls Try.prog 16 #[.agg #[.int .i64 n, .slice a len cap], .slice b m c] w fun e w' => Below w.heap.size w w' ∧ e = .returned (.tuple #[.slice none 0 0, .int .i64 4]) := by
  have HG := Lib.hid (Box.make (Below.refl _ w) n a len cap)
  have hnb : ((m : Int) != n) = true := by simpa using hn
  go_enter Try.func16, Try.ntmps16
  go_wp2_with fail
  go_ret2
  exact ⟨HG.out.below, rfl⟩
set_option maxHeartbeats 1000000 in
theorem late_check (cap : Nat) (a : Option Addr) (b : Option Addr) (w : World) (hc : checkV (m : Int) l ≠ 0) (hl : IsArcs w.heap.size w a len l) :
    Calls Try.prog 16 #[.agg #[.int .i64 (m : Int), .slice a len cap], .slice b m c] w fun e w' => Below w.heap.size w w' ∧ e = .returned (.tuple #[.slice none 0 0, .int .i64 (checkV (m : Int) l)]) := by
  have HG := Lib.hid (Box.make (Below.refl _ w) (m : Int) a len cap)
  have HL := Lib.hid hl; clear hl
  have hcb : (checkV (m : Int) l != 0) = true := by simpa using hc
  have HCA := Lib.hid (fun (W : World) (h : IsArcs W.heap.size W a len l) => check_any (m : Int) cap a W h)
  generalize checkV (m : Int) l = v at *
  clear hc
  go_enter Try.func16, Try.ntmps16
  go_wp2_with (go_at_call 19; refine (HCA.out _ (HG.out.arcsHere HL.out)).mono ?_; rintro e w1 ⟨rfl, hb1⟩; have HG1 := Lib.hid (HG.out.later hb1); clear hb1)
  go_ret2
  exact ⟨HG1.out.below, rfl⟩
set_option maxHeartbeats 1000000 in
theorem late_range (cap : Nat) (a : Option Addr) (b : Option Addr) (w : World) (hm : m ≤ 9223372036854775807) (hc : checkV (m : Int) l = 0) (hf : ∃ x ∈ xs, farB x = true) (hl : IsArcs w.heap.size w a len l) (hi : IsInts w.heap.size w b m xs) :
    Calls Try.prog 16 #[.agg #[.int .i64 (m : Int), .slice a len cap], .slice b m c] w fun e w' => Below w.heap.size w w' ∧ e = .returned (.tuple #[.slice none 0 0, .int .i64 2]) := by
  have HG := Lib.hid (Box.make (Below.refl _ w) (m : Int) a len cap)
  have HL := Lib.hid hl; clear hl
  have HI := Lib.hid hi; clear hi
  have HF := Lib.hid hf; clear hf
  have HCK := Lib.hid (check_any (m : Int) cap a _ (HG.out.arcsHere HL.out))
  rw [hc] at HCK
  clear hc
  go_enter Try.func16, Try.ntmps16
  go_wp2_with (first
    | (go_at_call 19; refine HCK.out.mono ?_; rintro e w1 ⟨rfl, hb1⟩; have HG1 := Lib.hid (HG.out.later hb1); have HI1 := Lib.hid (IsInts.to_ HI.out HG1.out.below); clear hb1)
    | (go_at_call 24; refine (contains_far b c _ hm HI1.out HF.out).mono ?_; rintro e w2 ⟨rfl, rfl⟩))
  go_ret2
  exact ⟨HG1.out.below, rfl⟩
set_option maxHeartbeats 1000000 in
theorem late_cyc (cap : Nat) (a : Option Addr) (b : Option Addr) (w : World) (hm : m ≤ 9223372036854775807) (hc : checkV (m : Int) l = 0) (hf : ∀ x ∈ xs, farB x = false) (ho : Stuck l m o) (hl : IsArcs w.heap.size w a len l) (hi : IsInts w.heap.size w b m xs) :
    Calls Try.prog 16 #[.agg #[.int .i64 (m : Int), .slice a len cap], .slice b m c] w fun e w' => Below w.heap.size w w' ∧ e = .returned (.tuple #[.slice none 0 0, .int .i64 7]) := by
  have HG := Lib.hid (Box.make (Below.refl _ w) (m : Int) a len cap)
  have HL := Lib.hid hl; clear hl
  have HI := Lib.hid hi; clear hi
  have HF := Lib.hid hf; clear hf
  have HC := Lib.hid hc
  have HO := Lib.hid ho
  have HCK := Lib.hid (check_any (m : Int) cap a _ (HG.out.arcsHere HL.out))
  rw [hc] at HCK
  clear hc ho
  go_enter Try.func16, Try.ntmps16
  go_wp2_with (first
    | (go_at_call 19; refine HCK.out.mono ?_; rintro e w1 ⟨rfl, hb1⟩; have HG1 := Lib.hid (HG.out.later hb1); have HI1 := Lib.hid (IsInts.to_ HI.out HG1.out.below); have x0 := HG1.out.c0; have x1 := HG1.out.c1; clear hb1)
    | (go_at_call 24; refine (contains_near b c _ hm HI1.out HF.out).mono ?_; rintro e w2 ⟨rfl, rfl⟩)
    | (go_at_call 10; refine (osort_no HC.out HO.out cap a _ (HG1.out.arcsHere HL.out)).mono ?_; rintro e w3 ⟨hb3, a1, c1, rfl⟩; have HG3 := Lib.hid (HG1.out.later hb3); clear hb3))
  go_ret2
  exact ⟨HG3.out.below, rfl⟩
theorem late_bad (n : Int) (len cap : Nat) (l : List Ar) (a : Option Addr) (m c : Nat) (xs : List Int) (b : Option Addr) (w : World) (he : lateErr n l xs ≠ 0) (hl : IsArcs w.heap.size w a len l) (hi : IsInts w.heap.size w b m xs) (hm : m ≤ 9223372036854775807) :
    Calls Try.prog 16 #[.agg #[.int .i64 n, .slice a len cap], .slice b m c] w fun e w' => Below w.heap.size w w' ∧ ∃ a1 c1, e = .returned (.tuple #[.slice a1 0 c1, .int .i64 (lateErr n l xs)]) := by
  have hxl := hi.1
  by_cases h1 : (m : Int) = n
  · subst h1
    by_cases h2 : checkV (m : Int) l = 0
    · by_cases h3 : ∃ x ∈ xs, farB x = true
      · have h3' : ∃ x ∈ xs, x < -1125899906842624 ∨ 1125899906842624 < x := by
          obtain ⟨x, hx, hb⟩ := h3
          exact ⟨x, hx, farB_true.1 hb⟩
        have e : lateErr (m : Int) l xs = 2 := by rw [lateErr, if_neg (by simp [hxl]), if_neg (by simp [h2]), if_pos h3']
        rw [e]
        exact (late_range cap a b w hm h2 h3 hl hi).mono fun e w' ⟨hb, he⟩ => ⟨hb, _, _, he⟩
      · have h3' : ¬ ∃ x ∈ xs, x < -1125899906842624 ∨ 1125899906842624 < x := fun ⟨x, hx, hb⟩ => h3 ⟨x, hx, farB_true.2 hb⟩
        have h4 : ∀ x ∈ xs, farB x = false := fun x hx => by
          cases hb : farB x with
          | false => rfl
          | true => exact absurd ⟨x, hx, hb⟩ h3
        have hmt : (m : Int).toNat = m := by simp
        obtain ⟨o, ho⟩ := whole_or_stuck l m
        rcases ho with ho | ho
        · exfalso
          refine he ?_
          rw [lateErr, if_neg (by simp [hxl]), if_neg (by simp [h2]), if_neg h3', if_neg]
          rintro ⟨out, h5⟩
          rw [hmt] at h5
          exact h5.not_whole ho
        · have e : lateErr (m : Int) l xs = 7 := by rw [lateErr, if_neg (by simp [hxl]), if_neg (by simp [h2]), if_neg h3', if_pos ⟨o, by rw [hmt]; exact ho⟩]
          rw [e]
          exact (late_cyc cap a b w hm h2 h4 ho hl hi).mono fun e w' ⟨hb, he⟩ => ⟨hb, _, _, he⟩
    · have e : lateErr (m : Int) l xs = checkV (m : Int) l := by rw [lateErr, if_neg (by simp [hxl]), if_pos h2]
      rw [e]
      exact (late_check cap a b w h2 hl).mono fun e w' ⟨hb, he⟩ => ⟨hb, _, _, he⟩
  · have e : lateErr n l xs = 4 := by rw [lateErr, if_pos (by rw [hxl]; exact h1)]
    rw [e]
    exact (late_size cap a b w h1).mono fun e w' ⟨hb, he⟩ => ⟨hb, _, _, he⟩
end part
end Go.Proofs.Ytgoegkajfhhcjaa
