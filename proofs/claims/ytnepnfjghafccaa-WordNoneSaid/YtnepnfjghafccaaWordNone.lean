/- The walk of the law on a text with which nothing is done. -/
import Derived.Test.YtnepnfjghafccaaWAwake
import Derived.Test.YtnepnfjghafccaaRWords
namespace Go.Proofs.Ytnepnfjghafccaa
open Go.RowKit

theorem wordNone_walk (s : ByteArray) (hs : s.size ≤ maxLen) (w : World) : Calls Try.prog 5 #[.string s] w fun e w' => e = .returned (.bool true) ∧ Below w.heap.size w w' := by
  unfold maxLen at hs
  by_cases hbig : 2000 < s.size
  · have h1 : (2000 : Int) < (s.size : Int) := by omega
    go_enter Try.func5, Try.ntmps5
    go_wp2_with (go_at_call 9; refine (word_awake _).mono ?_; rintro e w1 ⟨rfl, hb1⟩)
    go_ret
    exact ⟨rfl, hb1⟩
  · have h1 : ¬ (2000 : Int) < (s.size : Int) := by omega
    have hle : toN badB s.data.toList ≤ s.size := by have := toN_le badB s.data.toList; simpa using this
    by_cases hb : toN badB s.data.toList < s.size
    · have HR := Lib.hid fun W => read_bad s .nilFunc W (by omega) hb
      have HW := Lib.hid fun W => words_bad s W (by omega) hb
      generalize toN badB s.data.toList = q at *
      go_enter Try.func5, Try.ntmps5
      go_wp2_with (first
        | (go_at_call 9; refine (word_awake _).mono ?_; rintro e w1 ⟨rfl, hb1⟩)
        | (go_at_call 13; refine (HR.out _).mono ?_; rintro e w2 ⟨rfl, rfl⟩)
        | (go_at_call 11; refine (HW.out _).mono ?_; rintro e w3 ⟨rfl, rfl⟩))
      go_ret
      exact ⟨rfl, hb1⟩
    · have hb' : toN badB s.data.toList = s.size := by omega
      have HR := Lib.hid fun W => read_none s W (by omega) hb'
      have HW := Lib.hid fun W => words_good s W (by omega) hb'
      have hl := words_few s (by omega)
      generalize cutL s.data.toList 0 = ws at *
      clear hb hb' hle
      by_cases h0 : 0 < ws.length
      · obtain ⟨⟨t, a⟩, hx⟩ : ∃ x, ws[0]? = some x := ⟨_, List.getElem?_eq_getElem h0⟩
        have he : endAt ws s.size 0 = a ∧ endCode ws 0 = 6 := by simp only [endAt, endCode, if_pos h0, placeN_some hx, and_self]
        rw [he.1, he.2] at HR
        have HX := Lib.hid hx
        clear hx he
        go_enter Try.func5, Try.ntmps5
        go_wp2_with (first
          | (go_at_call 9; refine (word_awake _).mono ?_; rintro e w1 ⟨rfl, hb1⟩; have HB1 := Lib.hid hb1; clear hb1)
          | (go_at_call 13; refine (HR.out _).mono ?_; rintro e w2 ⟨rfl, hb2⟩; have HB2 := Lib.hid (HB1.out.trans (hb2.mono HB1.out.size)); clear hb2))
        refine (HW.out _).mono ?_
        rintro e w3 ⟨v, rfl, hr, hb3⟩
        have HB3 := Lib.hid (HB2.out.trans (hb3.mono HB2.out.size))
        obtain ⟨g, cap, hv, _, _, hcl, hcm⟩ := hr.some_ h0
        subst hv
        have c1 := (hr.cells HX.out).2
        simp only [Nat.zero_mul, Nat.zero_add] at c1
        unfold maxLen at hcm
        clear hr hb3
        go_wp2_with fail
        go_ret
        exact ⟨rfl, HB3.out⟩
      · have he : endAt ws s.size 0 = 0 ∧ endCode ws 0 = 0 := by simp only [endAt, endCode, if_neg h0, and_self]
        rw [he.1, he.2] at HR
        clear he
        go_enter Try.func5, Try.ntmps5
        go_wp2_with (first
          | (go_at_call 9; refine (word_awake _).mono ?_; rintro e w1 ⟨rfl, hb1⟩; have HB1 := Lib.hid hb1; clear hb1)
          | (go_at_call 13; refine (HR.out _).mono ?_; rintro e w2 ⟨rfl, hb2⟩; have HB2 := Lib.hid (HB1.out.trans (hb2.mono HB1.out.size)); clear hb2))
        refine (HW.out _).mono ?_
        rintro e w3 ⟨v, rfl, hr, hb3⟩
        have HB3 := Lib.hid (HB2.out.trans (hb3.mono HB2.out.size))
        obtain ⟨va, vc, hv⟩ := hr.shape
        subst hv
        clear hr hb3
        go_wp2_with fail
        go_ret
        exact ⟨rfl, HB3.out⟩
end Go.Proofs.Ytnepnfjghafccaa
