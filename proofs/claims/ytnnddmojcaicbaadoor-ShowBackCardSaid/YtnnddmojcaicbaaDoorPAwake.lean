/- The fixed fact of the layer. -/
import Derived.Test.YtnnddmojcaicbaaDoorQParse
import Derived.Test.YtnnddmojcaicbaaDoorIAwake
namespace Go.Proofs.YtnnddmojcaicbaaDoor
open Go.RowKit

def sayB : List UInt8 := [119, 104, 97, 114, 102, 97, 103, 101, 32, 53, 32, 116, 114, 117, 99, 107, 115, 32, 48, 32, 57]
theorem say_cut : cutL sayB 0 = [(tWharfage, 0), ([53], 9), (tTrucks, 11), ([48], 18), ([57], 20)] := by
  simp [sayB, cutL_cons, cutL_nil, blankB, sepB, toN, tWharfage, tTrucks]
theorem say_run : runR (cutL sayB 0) instP 0 = .no 3 2 := by
  rw [say_cut]
  have p5 : parseO [53] = some 5 := by decide
  have p0 : parseO [48] = some 0 := by decide
  simp [instP, runR, mustK, numK, p5, p0]
theorem say_at : textAt sayB = 18 := by
  have h : ¬ toN badB sayB < sayB.length := by decide
  rw [textAt, if_neg h, say_run, say_cut]
  rfl
theorem say_c : textC sayB = 2 := by
  have h : ¬ toN badB sayB < sayB.length := by decide
  rw [textC, if_neg h, say_run]
  rfl
set_option maxHeartbeats 1000000 in
theorem parse_awake (w : World) : Calls Tryd.prog 18 #[] w fun e w' => e = .returned (.bool true) ∧ Below w.heap.size w w' := by
  have HP : Hid (Calls Tryd.prog 15 #[.string ⟨#[119, 104, 97, 114, 102, 97, 103, 101, 32, 53, 32, 116, 114, 117, 99, 107, 115, 32, 48, 32, 57]⟩] w fun e w' => ∃ A x, e = .returned (.tuple #[.agg (insC A x), .int .i64 18, .int .i64 2]) ∧ Below w.heap.size w w') := Lib.hid (by
    refine (parse_ins ⟨#[119, 104, 97, 114, 102, 97, 103, 101, 32, 53, 32, 116, 114, 117, 99, 107, 115, 32, 48, 32, 57]⟩ w (by decide)).mono fun e w' h => ?_
    obtain ⟨A, h1, _, h3⟩ := h
    refine ⟨A, textI sayB, ?_, h3⟩
    rw [h1]
    show Ending.returned (.tuple #[.agg (insC A (textI sayB)), .int .i64 (textAt sayB : Int), .int .i64 (textC sayB)]) = _
    rw [say_at, say_c]
    rfl)
  go_enter Tryd.func18, Tryd.ntmps18
  go_wp2_with fail
  refine HP.out.mono ?_
  rintro e w1 ⟨A, x, rfl, hb⟩
  have HB := Lib.hid hb
  clear HP hb
  unfold insC
  go_wp2_with (go_at_call 44; refine (inst_awake _).mono ?_; rintro e w2 ⟨rfl, hb2⟩; have HB2 := Lib.hid ((HB.out.alloc HB.out.size _).trans (hb2.mono (HB.out.alloc HB.out.size _).size)); clear hb2)
  go_ret
  exact ⟨rfl, HB2.out⟩
end Go.Proofs.YtnnddmojcaicbaaDoor
