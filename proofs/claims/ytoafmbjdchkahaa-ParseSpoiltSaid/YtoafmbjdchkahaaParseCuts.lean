/- The walk of the law on beginnings of an instance's text. -/
import Derived.Test.YtoafmbjdchkahaaParseReads
import Derived.Test.YtoafmbjdchkahaaQWords
import Derived.Test.YtoafmbjdchkahaaTText
import Derived.Test.YtoafmbjdchkahaaSBox
import Derived.Laws.DeepStrings4
namespace Go.Proofs.Ytoafmbjdchkahaa
open Go.RowKit

theorem take_bytes (tx : ByteArray) (k : Nat) : (tx.extract 0 k).data.toList = tx.data.toList.take k := by
  simp [ByteArray.data_extract]
/-- An instance's text, as a string. -/
theorem text_str {x : Ins} {tx : ByteArray} (h : tx = ⟨(textB x).toArray⟩) : tx.data.toList = textB x ∧ tx.size = (textB x).length := by
  subst h
  constructor
  · simp
  · simp [ByteArray.size]
theorem textB_three (x : Ins) : 10 ≤ (textB x).length := by
  unfold textB
  rw [List.length_append, spW_append, List.length_append]
  have h1 : tWharfage.length = 8 := rfl
  have h2 : (spW [tEnd]).length = 4 := rfl
  omega
set_option maxHeartbeats 4000000 in
set_option maxRecDepth 100000 in
theorem parseCuts_walk (A : SmA) (s : Sm) (cut : Int) (hcut : 0 ≤ cut ∧ cut ≤ 65535) (w : World) (hs : IsSm w.heap.size w A s) :
    Calls Try.prog 7 #[.agg (smC A s), .int .u16 cut] w fun e w' => e = .returned (.bool true) ∧ Below w.heap.size w w' := by
  have HS := Lib.hid (SBox.make w A s)
  have HSM := Lib.hid hs
  have HMK := Lib.hid (fun (W0 : World) (h : IsSm W0.heap.size W0 A s) => make_any A s W0 h)
  have hmay := may_make hs.okl
  obtain ⟨x, hx⟩ : ∃ x, makeI s = x := ⟨_, rfl⟩
  rw [hx] at HMK hmay
  have HMAY := Lib.hid hmay
  obtain ⟨tx, htx⟩ : ∃ tx : ByteArray, tx = ⟨(textB x).toArray⟩ := ⟨_, rfl⟩
  have HTX := Lib.hid (text_str htx)
  have HTT : Hid (∀ (A2 : InA) (W0 : World), IsIns W0.heap.size W0 A2 x → Calls Try.prog 13 #[.agg (insC A2 x)] W0 fun e w' => e = .returned (.string tx) ∧ Below W0.heap.size W0 w') := Lib.hid (fun A2 W0 h => by rw [htx]; exact text_any A2 x W0 h HMAY.out)
  have hm1 : 10 ≤ tx.size := by rw [HTX.out.2]; exact textB_three x
  have hm2 : tx.size ≤ 90000 := by rw [HTX.out.2]; exact text_len hmay
  obtain ⟨m, hm⟩ : ∃ m, tx.size = m := ⟨_, rfl⟩
  rw [hm] at hm1 hm2
  obtain ⟨q, hq⟩ : ∃ q : Nat, cut % ((m : Int) - 2) = (q : Int) := ⟨(cut % ((m : Int) - 2)).toNat, by
    have := Int.emod_nonneg cut (show (m : Int) - 2 ≠ 0 by omega)
    omega⟩
  have hq2 : q < m - 2 := by
    have := Int.emod_lt_of_pos cut (show (0 : Int) < (m : Int) - 2 by omega)
    omega
  have hcuts := text_cuts (x := x) (k := q) hmay (by rw [← HTX.out.2, hm]; exact hq2)
  have HP : Hid (∃ (p : Nat) (c : Int), p ≤ q ∧ c ≠ 0 ∧ ∀ W0, Calls Try.prog 9 #[.string (tx.extract 0 q)] W0 (Ans zeroI p c W0)) := Lib.hid ⟨textAt ((textB x).take q), textC ((textB x).take q), hcuts.2.1, hcuts.2.2, fun W0 => by
    have h := parse_ins (tx.extract 0 q) W0 (by simp [ByteArray.size_extract]; omega)
    rw [take_bytes, HTX.out.1] at h
    rw [← hcuts.1]
    exact h⟩
  have h10 : ¬ ((m : Int) - 2 = 0) := by omega
  have h11 : (((m : Int) - 2) == 0) = false := by simp; omega
  obtain ⟨hc1, hc2⟩ := hcut
  clear hx hs hmay htx hcuts
  unfold smC at *
  go_enter Try.func7, Try.ntmps7
  go_wp2_with (first
    | (go_at_call 8; refine (parse_awake _).mono ?_; rintro e w1 ⟨rfl, hb1⟩; have HS1 := Lib.hid (HS.out.later hb1); obtain ⟨j0, j1, j2, j3, j4, j5, j6, j7, j8, j9, j10⟩ := HS1.out.cells; clear hb1)
    | (go_at_call 14; refine (HMK.out _ (HS1.out.here HSM.out)).mono ?_; rintro e w2 ⟨⟨A2, rfl, C, D, VK, VT, hown⟩, hb2⟩; have HB2 := Lib.hid (HS1.out.below.trans (hb2.mono HS1.out.below.size)); have HI2 := Lib.hid hown.is_; clear hown hb2 j0 j1 j2 j3 j4 j5 j6 j7 j8 j9 j10)
    | (go_at_call 13; refine (HTT.out A2 _ HI2.out).mono ?_; rintro e w3 ⟨rfl, hb3⟩; have HB3 := Lib.hid (HB2.out.trans (hb3.mono HB2.out.size)); clear hb3))
  obtain ⟨p, c, hp, hc, hcall⟩ := HP.out
  refine (hcall _).mono ?_
  rintro e w4 ⟨A4, rfl, hi4, hb4⟩
  have e1 : (c != 0) = true := by simpa using hc
  have e2 : decide ((0 : Int) ≤ (p : Int)) = true := by simp
  have e3 : decide ((p : Int) ≤ cut % ((m : Int) - 2)) = true := by rw [hq]; simp; omega
  have HI5 := Lib.hid ((hi4.later ((Below.refl _ _).alloc (Nat.le_refl _) (.cells (insC A4 zeroI) 29))).mono (by simp : w4.heap.size ≤ (w4.alloc (.cells (insC A4 zeroI) 29)).heap.size))
  have HB5 := Lib.hid ((HB3.out.trans (hb4.mono HB3.out.size)).alloc (HB3.out.trans (hb4.mono HB3.out.size)).size (.cells (insC A4 zeroI) 29))
  have hx5 := heap_alloc_new w4 (.cells (insC A4 zeroI) 29)
  have HSm := Lib.hid (lawSame_any A4 ⟨none, 0, none, 0, none, 0, none, 0⟩ zeroI zeroI _ HI5.out (zeroI_is _) zeroI_light)
  unfold insC at hx5
  obtain ⟨x0, x1, x2, x3, x4, x5, x6, x7, x8, _⟩ := cells9 hx5
  unfold insC at *
  have HSR := Lib.hid (sameI_refl zeroI)
  clear HP hcall hi4 hb4 hx5 hq hc hp HI2
  go_wp2_with (go_at_call 11; refine HSm.out.mono ?_; rintro e w6 ⟨rfl, hb6⟩; have HB6 := Lib.hid (HB5.out.trans (hb6.mono HB5.out.size)); clear hb6; rw [HSR.out])
  go_ret
  exact ⟨rfl, HB6.out⟩
end Go.Proofs.Ytoafmbjdchkahaa
