/- The walk of the law on graphs that may not be. -/
import Derived.Test.YtkjiednhllmknaaGAwake
namespace Go.Proofs.Ytkjiednhllmknaa
open Go.RowKit

variable {len : Nat} {l : List Ar}
theorem graphNone_walk (n : Int) (a : Option Addr) (cap : Nat) (s : Int) (w : World) (hbig : len ≤ maxLen) (hl : IsArcs w.heap.size w a len l) :
    Calls Try.prog 6 #[.agg #[.int .i64 n, .slice a len cap], .int .i64 s] w fun e w' => e = .returned (.bool true) ∧ Below w.heap.size w w' := by
  unfold maxLen at hbig
  have HG := Lib.hid (Box.make (Below.refl _ w) n a len cap)
  have HL := Lib.hid hl; clear hl
  by_cases h1 : (100 : Int) < (len : Int)
  · go_enter Try.func6, Try.ntmps6
    go_wp2_with (go_at_call 7; refine (graph_awake _).mono ?_; rintro e w1 ⟨rfl, hb1⟩; have HG1 := Lib.hid (HG.out.later hb1); have x0 := HG1.out.c0; have x1 := HG1.out.c1; clear hb1)
    go_ret
    exact ⟨rfl, HG1.out.below⟩
  · by_cases hc : checkV n l = 0
    · have HC := Lib.hid hc
      clear hc
      go_enter Try.func6, Try.ntmps6
      go_wp2_with (first
        | (go_at_call 7; refine (graph_awake _).mono ?_; rintro e w1 ⟨rfl, hb1⟩; have HG1 := Lib.hid (HG.out.later hb1); have x0 := HG1.out.c0; have x1 := HG1.out.c1; clear hb1)
        | (go_at_call 8; refine (check_any n cap a _ (HG1.out.arcsHere HL.out)).mono ?_; rw [HC.out]; rintro e w2 ⟨rfl, hb2⟩; have HG2 := Lib.hid (HG1.out.later hb2); have y0 := HG2.out.c0; have y1 := HG2.out.c1; clear hb2))
      go_ret
      exact ⟨rfl, HG2.out.below⟩
    · have HC := Lib.hid hc
      have hc2 : (checkV n l == 0) = false := by simpa using hc
      clear hc
      obtain ⟨cv, hcv⟩ : ∃ cv, checkV n l = cv := ⟨_, rfl⟩
      rw [hcv] at hc2
      have HCV := Lib.hid hcv
      clear hcv
      go_enter Try.func6, Try.ntmps6
      go_wp2_with (first
        | (go_at_call 7; refine (graph_awake _).mono ?_; rintro e w1 ⟨rfl, hb1⟩; have HG1 := Lib.hid (HG.out.later hb1); have x0 := HG1.out.c0; have x1 := HG1.out.c1; clear hb1)
        | (go_at_call 8; refine (check_any n cap a _ (HG1.out.arcsHere HL.out)).mono ?_; rw [HCV.out]; rintro e w2 ⟨rfl, hb2⟩; have HG2 := Lib.hid (HG1.out.later hb2); have y0 := HG2.out.c0; have y1 := HG2.out.c1; clear hb2)
        | (go_at_call 14; refine (reach_bad n s a cap _ (HG2.out.arcsHere HL.out) HC.out).mono ?_; rintro e w3 ⟨rfl, hb3⟩; have HG3 := Lib.hid (HG2.out.later hb3); clear hb3))
      go_ret
      exact ⟨rfl, HG3.out.below⟩
end Go.Proofs.Ytkjiednhllmknaa
