/- The walk of the law on what is read: it may be. -/
import Derived.Test.YtoafmbjdchkahaaParseReads
import Derived.Test.YtoafmbjdchkahaaICode
namespace Go.Proofs.Ytoafmbjdchkahaa
open Go.RowKit

theorem textI_may {l : List UInt8} (h : textC l = 0) : instErr (textI l) = 0 := by
  unfold textC at h
  unfold textI
  split
  · rename_i hb
    rw [if_pos hb] at h
    cases h
  · rename_i hb
    rw [if_neg hb] at h
    cases hF : runR (cutL l 0) instP 0 with
    | ok x k =>
      rw [hF] at h
      simp only [ansC] at h
      simp only [ansI]
      split
      · rename_i hk
        rw [if_pos hk] at h
        cases h
      · exact (read_ok hF).err
    | no k c =>
      rw [hF] at h
      simp only [ansC] at h
      subst h
      rcases run_codes _ _ _ _ hF with h | h | h <;> cases h
set_option maxHeartbeats 4000000 in
set_option maxRecDepth 100000 in
theorem parseMay_walk (s : ByteArray) (hs : s.size ≤ maxLen) (w : World) :
    Calls Try.prog 6 #[.string s] w fun e w' => e = .returned (.bool true) ∧ Below w.heap.size w w' := by
  unfold maxLen at hs
  by_cases hbig : 3000 < s.size
  · have hd : decide ((3000 : Int) < (s.size : Int)) = true := by simp; omega
    go_enter Try.func6, Try.ntmps6
    go_wp2_with (go_at_call 8; refine (parse_awake _).mono ?_; rintro e w1 ⟨rfl, hb1⟩; have HB1 := Lib.hid hb1; clear hb1)
    go_ret
    exact ⟨rfl, HB1.out⟩
  · have hd : decide ((3000 : Int) < (s.size : Int)) = false := by simp; omega
    have HP : Hid (∀ W0, Calls Try.prog 9 #[.string s] W0 (Ans (textI s.data.toList) (textAt s.data.toList) (textC s.data.toList) W0)) := Lib.hid fun W0 => parse_ins s W0 (by omega)
    have HL := Lib.hid (textI_light s.data.toList)
    have HE : Hid (textC s.data.toList = 0 → instErr (textI s.data.toList) = 0) := Lib.hid textI_may
    generalize textI s.data.toList = X at *
    generalize textAt s.data.toList = p at *
    generalize textC s.data.toList = c at *
    go_enter Try.func6, Try.ntmps6
    go_wp2_with (go_at_call 8; refine (parse_awake _).mono ?_; rintro e w1 ⟨rfl, hb1⟩; have HB1 := Lib.hid hb1; clear hb1)
    refine (HP.out _).mono ?_
    rintro e w2 ⟨A1, rfl, hi2, hb2⟩
    have HI3 := Lib.hid ((hi2.later ((Below.refl _ _).alloc (Nat.le_refl _) (.cells (insC A1 X) 29))).mono (by simp : w2.heap.size ≤ (w2.alloc (.cells (insC A1 X) 29)).heap.size))
    have HB3 := Lib.hid ((HB1.out.trans (hb2.mono HB1.out.size)).alloc (HB1.out.trans (hb2.mono HB1.out.size)).size (.cells (insC A1 X) 29))
    have hx3 := heap_alloc_new w2 (.cells (insC A1 X) 29)
    have HCd := Lib.hid (code_any A1 X _ HI3.out HL.out)
    unfold insC at hx3
    obtain ⟨x0, x1, x2, x3, x4, x5, x6, x7, x8, _⟩ := cells9 hx3
    unfold insC at *
    clear HP hi2 hb2 HB1 hx3
    by_cases hc : c = 0
    · have he := HE.out hc
      rw [he] at HCd
      subst hc
      go_wp2_with (go_at_call 15; refine HCd.out.mono ?_; rintro e w6 ⟨rfl, hb6⟩; have HB6 := Lib.hid (HB3.out.trans (hb6.mono HB3.out.size)); clear hb6)
      go_ret
      exact ⟨rfl, HB6.out⟩
    · have hcc : (c != 0) = true := by simpa using hc
      clear hc
      go_wp2_with fail
      go_ret
      exact ⟨rfl, HB3.out⟩
end Go.Proofs.Ytoafmbjdchkahaa
