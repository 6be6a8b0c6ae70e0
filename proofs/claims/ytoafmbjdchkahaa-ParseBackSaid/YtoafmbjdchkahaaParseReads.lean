/- The walk of the law on any text: what is read, where it goes wrong, why. -/
import Derived.Test.YtoafmbjdchkahaaPAwake
import Derived.Test.YtoafmbjdchkahaaTReadA
import Derived.Test.YtoafmbjdchkahaaISame
namespace Go.Proofs.Ytoafmbjdchkahaa
open Go.RowKit

theorem textI_light (l : List UInt8) : (textI l).light = true := by
  unfold textI
  split
  · exact zeroI_light
  · exact ansI_light
/-- What Parse and the law's own reading answer, in one form. -/
def Ans (X : Ins) (p : Nat) (c : Int) (w : World) (e : Ending) (w' : World) : Prop :=
  ∃ A, e = .returned (.tuple #[.agg (insC A X), .int .i64 (p : Int), .int .i64 c]) ∧ IsIns w'.heap.size w' A X ∧ Below w.heap.size w w'
theorem bool_true {b : Bool} (h : b = true) : Ending.returned (.bool b) = .returned (.bool true) := by rw [h]
set_option maxHeartbeats 4000000 in
set_option maxRecDepth 100000 in
theorem parseReads_walk (s : ByteArray) (hs : s.size ≤ maxLen) (w : World) :
    Calls Try.prog 3 #[.string s] w fun e w' => e = .returned (.bool true) ∧ Below w.heap.size w w' := by
  unfold maxLen at hs
  by_cases hbig : 3000 < s.size
  · have hd : decide ((3000 : Int) < (s.size : Int)) = true := by simp; omega
    go_enter Try.func3, Try.ntmps3
    go_wp2_with (go_at_call 8; refine (parse_awake _).mono ?_; rintro e w1 ⟨rfl, hb1⟩; have HB1 := Lib.hid hb1; clear hb1)
    go_ret
    exact ⟨rfl, HB1.out⟩
  · have hd : decide ((3000 : Int) < (s.size : Int)) = false := by simp; omega
    have HP : Hid (∀ W0, Calls Try.prog 9 #[.string s] W0 (Ans (textI s.data.toList) (textAt s.data.toList) (textC s.data.toList) W0)) := Lib.hid fun W0 => parse_ins s W0 (by omega)
    have HR : Hid (∀ W0, Calls Try.prog 10 #[.string s] W0 (Ans (textI s.data.toList) (textAt s.data.toList) (textC s.data.toList) W0)) := Lib.hid fun W0 => reads_ins s W0 (by omega)
    have HL := Lib.hid (textI_light s.data.toList)
    generalize textI s.data.toList = X at *
    generalize textAt s.data.toList = p at *
    generalize textC s.data.toList = c at *
    have e1 : ((p : Int) == (p : Int)) = true := by simp
    have e2 : (c == c) = true := by simp
    have HSR := Lib.hid (sameI_refl X)
    go_enter Try.func3, Try.ntmps3
    go_wp2_with (go_at_call 8; refine (parse_awake _).mono ?_; rintro e w1 ⟨rfl, hb1⟩; have HB1 := Lib.hid hb1; clear hb1)
    refine (HP.out _).mono ?_
    rintro e w2 ⟨A1, rfl, hi2, hb2⟩
    have HI3 := Lib.hid ((hi2.later ((Below.refl _ _).alloc (Nat.le_refl _) (.cells (insC A1 X) 29))).mono (by simp : w2.heap.size ≤ (w2.alloc (.cells (insC A1 X) 29)).heap.size))
    have HB3 := Lib.hid ((HB1.out.trans (hb2.mono HB1.out.size)).alloc (HB1.out.trans (hb2.mono HB1.out.size)).size (.cells (insC A1 X) 29))
    have hx3 := heap_alloc_new w2 (.cells (insC A1 X) 29)
    have HX3 := Lib.hid hx3
    clear HP hi2 hb2 HB1 hx3
    go_wp2_with fail
    obtain ⟨w3, hw3⟩ : ∃ z, z = w2.alloc (.cells (insC A1 X) 29) := ⟨_, rfl⟩
    rw [← hw3] at HI3 HB3 HX3 ⊢
    clear hw3
    obtain ⟨b1, hb1⟩ : ∃ b, w2.heap.size = b := ⟨_, rfl⟩
    rw [hb1] at HX3 ⊢
    clear hb1
    refine (HR.out _).mono ?_
    rintro e w4 ⟨A2, rfl, hi4, hb4⟩
    have hb5 := (Below.refl w4.heap.size w4).alloc (Nat.le_refl _) (.cells (insC A2 X) 29)
    have hs4 : w4.heap.size ≤ (w4.alloc (.cells (insC A2 X) 29)).heap.size := by simp
    have HJ5 := Lib.hid ((hi4.later hb5).mono hs4)
    have HI5 := Lib.hid ((HI3.out.later (hb4.trans (hb5.mono hb4.size))).mono (Nat.le_trans hb4.size hs4))
    have HB5 := Lib.hid (HB3.out.trans ((hb4.trans (hb5.mono hb4.size)).mono HB3.out.size))
    have hx5 := heap_alloc_new w4 (.cells (insC A2 X) 29)
    have hy5 := ((hb4.trans (hb5.mono hb4.size)).block b1 (Array.getElem?_eq_some_iff.1 HX3.out).1).trans HX3.out
    unfold insC at hx5 hy5
    obtain ⟨y0, y1, y2, y3, y4, y5, y6, y7, y8, _⟩ := cells9 hx5
    obtain ⟨x0, x1, x2, x3, x4, x5, x6, x7, x8, _⟩ := cells9 hy5
    have HSm := Lib.hid (lawSame_any A1 A2 X X _ HI5.out HJ5.out HL.out)
    clear HR hi4 hb4 hb5 hs4 hx5 hy5 HX3
    unfold insC at *
    go_wp2_with (go_at_call 11; refine HSm.out.mono ?_; rintro e w6 ⟨rfl, hb6⟩; have HB6 := Lib.hid (HB5.out.trans (hb6.mono HB5.out.size)); clear hb6; rw [HSR.out])
    go_ret
    exact ⟨rfl, HB6.out⟩
end Go.Proofs.Ytoafmbjdchkahaa
