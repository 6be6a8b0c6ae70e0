/- Package order: is a beginning too far from nothing? slices.ContainsFunc. -/
import Derived.Test.YtgoegkajfhhcjaaOrderSpec
import Derived.Deep.QuietTactic
import Derived.Deep.RegionWith
import Derived.Deep.LoopGhost
import Derived.LoopTactic
import Derived.Lib.Hide
namespace Go.Proofs.Ytgoegkajfhhcjaa
open Go.RowKit

/-- Too far. -/
def farB (x : Int) : Bool := decide (x < -1125899906842624 ∨ 1125899906842624 < x)
theorem farB_true {x : Int} : farB x = true ↔ x < -1125899906842624 ∨ 1125899906842624 < x := by simp [farB]
variable {m k : Nat} {xs : List Int} {x : Int}
theorem IsInts.to_ {w w2 : World} {a : Option Addr} (h : IsInts w.heap.size w a m xs) (hb : Below w.heap.size w w2) : IsInts w2.heap.size w2 a m xs := by
  have h2 := h.later hb
  refine ⟨h2.1, ?_⟩
  rcases h2.2 with h0 | ⟨b, off, e, h3, h4⟩
  · exact .inl h0
  · exact .inr ⟨b, off, e, Nat.lt_of_lt_of_le h3 hb.size, h4⟩
theorem late1_any (x : Int) (w : World) :
    Calls Try.prog 25 #[.int .i64 x] w fun e w' => w' = w ∧ e = .returned (.bool (farB x)) := by
  by_cases h1 : x < -1125899906842624
  · have HB : Hid (farB x = true) := Lib.hid (farB_true.2 (.inl h1))
    go_enter Try.func25, Try.ntmps25
    go_wp2_with fail
    go_ret
    exact ⟨rfl, by rw [HB.out]; rfl⟩
  · by_cases h2 : 1125899906842624 < x
    · have HB : Hid (farB x = true) := Lib.hid (farB_true.2 (.inr h2))
      go_enter Try.func25, Try.ntmps25
      go_wp2_with fail
      go_ret
      exact ⟨rfl, by rw [HB.out]; rfl⟩
    · have HB : Hid (farB x = false) := Lib.hid (by cases hb : farB x with | false => rfl | true => have := farB_true.1 hb; omega)
      go_enter Try.func25, Try.ntmps25
      go_wp2_with fail
      go_ret
      exact ⟨rfl, by rw [HB.out]; rfl⟩
/-- The first that is too far; -1. -/
def farAt (xs : List Int) : Int := match xs.findIdx? farB with
  | some i => (i : Int)
  | none => -1
theorem farAt_yes (hx : xs[k]? = some x) (hb : farB x = true) (h : ∀ y ∈ xs.take k, farB y = false) : farAt xs = (k : Int) := by
  unfold farAt
  have : xs.findIdx? farB = some k := by
    rw [List.findIdx?_eq_some_iff_getElem]
    obtain ⟨hk, rfl⟩ := List.getElem?_eq_some_iff.1 hx
    refine ⟨hk, hb, fun j hj => ?_⟩
    have := h xs[j] (by rw [List.mem_take_iff_getElem]; exact ⟨j, by omega, rfl⟩)
    simp [this]
  rw [this]
theorem farAt_no (h : ∀ y ∈ xs, farB y = false) : farAt xs = -1 := by
  unfold farAt
  rw [List.findIdx?_eq_none_iff.2 h]
set_option maxHeartbeats 1000000 in
theorem indexFunc_any (b : Option Addr) (c : Nat) (w : World) (hm : m ≤ 9223372036854775807) (hi : IsInts w.heap.size w b m xs) :
    Calls Try.prog 35 #[.slice b m c, .func (.func 25) #[] #[]] w fun e w' => w' = w ∧ e = .returned (.int .i64 (farAt xs)) := by
  have HI := Lib.hid hi
  have HB0 : Hid (∀ y ∈ xs.take 0, farB y = false) := Lib.hid (fun y hy => by simp at hy)
  clear hi
  go_enter Try.func35, Try.ntmps35
  go_wp2_with fail
  go_loop [8] (fun iv => ∃ k : Nat, iv = .int .i64 k ∧ k ≤ m ∧ Hid (∀ y ∈ xs.take k, farB y = false)) (fun iv => m - (intOf iv).toNat)
  case atStart => exact ⟨0, rfl, Nat.zero_le _, HB0⟩
  case round =>
    obtain ⟨k, rfl, hk, HB⟩ := hrel
    clear HB0
    by_cases hlt : k < m
    · obtain ⟨bb, off, x, rfl, hx, e0⟩ := HI.out.at_ hlt
      cases hb : farB x with
      | true =>
        have HR := Lib.hid (farAt_yes hx hb HB.out)
        have HC := Lib.hid (late1_any x w)
        rw [hb] at HC
        clear hb hx
        go_wp2_with (go_at_call 25; refine HC.out.mono ?_; rintro e w' ⟨rfl, rfl⟩)
        go_ret
        exact ⟨rfl, by rw [HR.out]; rfl⟩
      | false =>
        have HN : Hid (∀ y ∈ xs.take (k + 1), farB y = false) := Lib.hid (fun y hy => by
          rw [List.take_add_one, hx] at hy
          simp only [Option.toList_some, List.mem_append, List.mem_singleton] at hy
          rcases hy with hy | rfl
          · exact HB.out y hy
          · exact hb)
        have HC := Lib.hid (late1_any x w)
        rw [hb] at HC
        clear hb hx
        go_wp2_with (go_at_call 25; refine HC.out.mono ?_; rintro e w' ⟨rfl, rfl⟩)
        go_round
        case rel => exact ⟨k + 1, by go_num, by omega, HN⟩
        case measure => simp [intOf]; omega
    · have hk2 : xs.take k = xs := List.take_of_length_le (by have := HI.out.1; omega)
      rw [hk2] at HB
      have HR := Lib.hid (farAt_no HB.out)
      clear hk2
      go_wp2_with fail
      go_ret
      exact ⟨rfl, by rw [HR.out]; rfl⟩
theorem contains_far (b : Option Addr) (c : Nat) (w : World) (hm : m ≤ 9223372036854775807) (hi : IsInts w.heap.size w b m xs) (h : ∃ x ∈ xs, farB x = true) :
    Calls Try.prog 24 #[.slice b m c, .func (.func 25) #[] #[]] w fun e w' => w' = w ∧ e = .returned (.bool true) := by
  have hf : ∃ k : Nat, farAt xs = (k : Int) := by
    unfold farAt
    cases hq : xs.findIdx? farB with
    | some i => exact ⟨i, rfl⟩
    | none =>
      obtain ⟨x, hx, hb⟩ := h
      have := List.findIdx?_eq_none_iff.1 hq x hx
      rw [hb] at this
      cases this
  obtain ⟨k, hk⟩ := hf
  have HC := Lib.hid (indexFunc_any b c w hm hi)
  rw [hk] at HC
  clear h hi hk
  go_enter Try.func24, Try.ntmps24
  go_wp2_with (go_at_call 35; refine HC.out.mono ?_; rintro e w' ⟨rfl, rfl⟩)
  go_ret
  exact ⟨rfl, rfl⟩
theorem contains_near (b : Option Addr) (c : Nat) (w : World) (hm : m ≤ 9223372036854775807) (hi : IsInts w.heap.size w b m xs) (h : ∀ x ∈ xs, farB x = false) :
    Calls Try.prog 24 #[.slice b m c, .func (.func 25) #[] #[]] w fun e w' => w' = w ∧ e = .returned (.bool false) := by
  have HC := Lib.hid (indexFunc_any b c w hm hi)
  rw [farAt_no h] at HC
  clear h hi
  go_enter Try.func24, Try.ntmps24
  go_wp2_with (go_at_call 35; refine HC.out.mono ?_; rintro e w' ⟨rfl, rfl⟩)
  go_ret
  exact ⟨rfl, rfl⟩
end Go.Proofs.Ytgoegkajfhhcjaa
