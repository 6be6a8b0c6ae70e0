/- Package least: check. -/
import Derived.Test.YtbenmebmfihleaaMLane
import Derived.Test.YtbenmebmfihleaaMSpec
import Derived.Test.YtbenmebmfihleaaFCheck
namespace Go.Proofs.Ytbenmebmfihleaa
open Go.RowKit

variable {w wr w2 : World} {a : Option Addr} {len cap : Nat} {l : List Pi} {n s t want : Int}
theorem kErr_ends (h : endsP n l s t ≠ 0) : leastErr n l s t want = endsP n l s t := by unfold leastErr; rw [if_neg h]
theorem kErr_range (h : endsP n l s t = 0) (h2 : ¬ RangeL l want) : leastErr n l s t want = 2 := by unfold leastErr; rw [if_pos h, if_neg h2]
theorem kErr_ok (h : endsP n l s t = 0) (h2 : RangeL l want) : leastErr n l s t want = 0 := by unfold leastErr; rw [if_pos h, if_pos h2]
theorem kErr_zero : leastErr n l s t want = 0 ↔ endsP n l s t = 0 ∧ RangeL l want := by
  by_cases h : endsP n l s t = 0
  · by_cases h2 : RangeL l want
    · simp [kErr_ok h h2, h, h2]
    · simp [kErr_range h h2, h2]
  · rw [kErr_ends h]; simp [h]
theorem rangeL_not (h : ∃ x ∈ l, dearB x = true) : ¬ RangeL l want := fun hr => by
  obtain ⟨x, hx, h2⟩ := h
  have := dearB_false.2 (hr.2 x hx)
  rw [h2] at this
  cases this
theorem rangeL_of (h0 : 0 ≤ want) (h1 : want ≤ 10000) (h : ¬ ∃ x ∈ l, dearB x = true) : RangeL l want :=
  ⟨⟨h0, h1⟩, fun x hx => dearB_false.1 (Bool.eq_false_iff.2 (fun h2 => h ⟨x, hx, h2⟩))⟩
set_option maxHeartbeats 2000000 in
theorem checkK_any (n s t want : Int) (len cap : Nat) (l : List Pi) (a : Option Addr) (w : World) (hl : IsPipes w.heap.size w a len l) :
    Calls Try.prog 22 #[.agg #[.int .i64 n, .slice a len cap], .int .i64 s, .int .i64 t, .int .i64 want] w fun e w' => e = .returned (.int .i64 (leastErr n l s t want)) ∧ Below w.heap.size w w' := by
  have HG := Lib.hid (NBox.make (Below.refl _ w) n a len cap)
  have HEN := Lib.hid (fends_any n s t len cap l a _ (HG.out.pipesHere hl))
  have HL := Lib.hid hl
  by_cases he : endsP n l s t = 0
  · rw [he] at HEN
    have hlen : len ≤ 20000 := by have := hl.1; have := (checkP_zero.1 (endsP_zero.1 he).1).1.2.2; omega
    have HEE := Lib.hid he
    clear he hl
    by_cases h0 : want < 0
    · have HX : Hid (leastErr n l s t want = 2) := Lib.hid (kErr_range HEE.out (fun h => by have := h.1; omega))
      rw [HX.out]
      go_enter Try.func22, Try.ntmps22
      go_wp2_with (go_at_call 17; refine HEN.out.mono ?_; rintro e w2 ⟨rfl, hb2⟩; have HG2 := Lib.hid (HG.out.later hb2); clear hb2)
      go_ret
      exact ⟨rfl, HG2.out.below⟩
    · have h0b : decide (want < 0) = false := by simp; omega
      by_cases h1 : 10000 < want
      · have HX : Hid (leastErr n l s t want = 2) := Lib.hid (kErr_range HEE.out (fun h => by have := h.1; omega))
        rw [HX.out]
        go_enter Try.func22, Try.ntmps22
        go_wp2_with (go_at_call 17; refine HEN.out.mono ?_; rintro e w2 ⟨rfl, hb2⟩; have HG2 := Lib.hid (HG.out.later hb2); clear hb2)
        go_ret
        exact ⟨rfl, HG2.out.below⟩
      · have h1b : decide (10000 < want) = false := by simp; omega
        have HW : Hid (0 ≤ want ∧ want ≤ 10000) := Lib.hid (by omega)
        go_enter Try.func22, Try.ntmps22
        go_wp2_with (first
          | (go_at_call 17; refine HEN.out.mono ?_; rintro e w2 ⟨rfl, hb2⟩; have HG2 := Lib.hid (HG.out.later hb2); have x1 := HG2.out.c1; clear hb2)
          | (go_at_call 39; refine (containsP_any hlen (HG2.out.pipesHere HL.out)).mono ?_; rintro e w3 ⟨⟨b, rfl, hb⟩, hb3⟩; have HB := Lib.hid hb; have HG3 := Lib.hid (HG2.out.later hb3); clear hb hb3; cases b))
        all_goals (go_wp2_with fail; go_ret)
        · exact ⟨by rw [kErr_ok HEE.out (rangeL_of HW.out.1 HW.out.2 (fun h => by have := HB.out.2 h; cases this))]; rfl, HG3.out.below⟩
        · exact ⟨by rw [kErr_range HEE.out (rangeL_not (HB.out.1 (by simp)))]; rfl, HG3.out.below⟩
  · have hb : (endsP n l s t != 0) = true := by simpa using he
    rw [kErr_ends he]
    generalize endsP n l s t = ev at hb HEN ⊢
    clear he hl
    go_enter Try.func22, Try.ntmps22
    go_wp2_with (go_at_call 17; refine HEN.out.mono ?_; rintro e w2 ⟨rfl, hb2⟩; have HG2 := Lib.hid (HG.out.later hb2); clear hb2)
    go_ret
    exact ⟨rfl, HG2.out.below⟩
end Go.Proofs.Ytbenmebmfihleaa
