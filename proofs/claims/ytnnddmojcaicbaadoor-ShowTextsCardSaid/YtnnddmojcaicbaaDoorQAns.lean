/- What Parse answers, in one form. -/
import Derived.Test.YtnnddmojcaicbaaDoorQParse
namespace Go.Proofs.YtnnddmojcaicbaaDoor
open Go.RowKit

theorem textI_light (l : List UInt8) : (textI l).light = true := by
  unfold textI
  split
  · exact zeroI_light
  · exact ansI_light
/-- What Parse and the law's own reading answer, in one form. -/
def Ans (X : Ins) (p : Nat) (c : Int) (w : World) (e : Ending) (w' : World) : Prop :=
  ∃ A, e = .returned (.tuple #[.agg (insC A X), .int .i64 (p : Int), .int .i64 c]) ∧ IsIns w'.heap.size w' A X ∧ Below w.heap.size w w'
theorem bool_true {b : Bool} (h : b = true) : Ending.returned (.bool b) = .returned (.bool true) := by rw [h]
theorem textI_may {l : List UInt8} (h : textC l = 0) : instErr (textI l) = 0 := by
  unfold textC at h
  unfold textI
  split
  · rename_i hb
    rw [if_pos hb] at h
    cases h
  · rename_i hb
    rw [if_neg hb] at h
    cases hF : runR (cutL l 0) instP 0 with
    | ok x k =>
      rw [hF] at h
      simp only [ansC] at h
      simp only [ansI]
      split
      · rename_i hk
        rw [if_pos hk] at h
        cases h
      · exact (read_ok hF).err
    | no k c =>
      rw [hF] at h
      simp only [ansC] at h
      subst h
      rcases run_codes _ _ _ _ hF with h | h | h <;> cases h
end Go.Proofs.YtnnddmojcaicbaaDoor
