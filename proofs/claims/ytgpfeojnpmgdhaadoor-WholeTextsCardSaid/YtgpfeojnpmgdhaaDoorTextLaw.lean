/- The walk of the law on numbers' texts. -/
import Derived.Test.YtgpfeojnpmgdhaaDoorAwake
import Derived.Test.YtgpfeojnpmgdhaaDoorText
import Derived.Test.YtgpfeojnpmgdhaaDoorRText
import Derived.WalkSmall
namespace Go.Proofs.YtgpfeojnpmgdhaaDoor
open Go.RowKit
open Go.Lib (decDigits itoa)

theorem gPow : Tryd.prog.globalNamed "internal/strconv.uint64pow10" = some 0 := by kernel_rfl
theorem tab_below {w w' : World} (h : Below w.heap.size w w') (hg : 0 < w.heap.size) (ht : Lib.TabIs Tryd.prog w "internal/strconv.uint64pow10" .u64 Lib.pow10Tab) : Lib.TabIs Tryd.prog w' "internal/strconv.uint64pow10" .u64 Lib.pow10Tab :=
  var?_below h gPow hg ht

theorem wholeTexts_walk (n : Int) (hn : Fits n) (w : World) (hg : 0 < w.heap.size) (htab : Lib.TabIs Tryd.prog w "internal/strconv.uint64pow10" .u64 Lib.pow10Tab) : Calls Tryd.prog 3 #[.int .i64 n] w fun e w' => e = .returned (.bool true) ∧ Below w.heap.size w w' := by
  have HN := Lib.hid hn; clear hn
  have HT := Lib.hid htab; clear htab
  have hsz : (⟨(itoa n).toArray⟩ : ByteArray).size ≤ maxLen := by
    have := itoa_len n HN.out
    show (itoa n).toArray.size ≤ maxLen
    simp [maxLen]; omega
  have HS := Lib.hid hsz; clear hsz
  have HP : Hid (parseO (⟨(itoa n).toArray⟩ : ByteArray).data.toList = _) := Lib.hid (parse_itoa n)
  by_cases hy : 0 ≤ n ∧ n ≤ 1000000000000000
  · have hv : Hid (parseO (⟨(itoa n).toArray⟩ : ByteArray).data.toList = some n.toNat) := Lib.hid (by rw [HP.out, if_pos hy])
    obtain ⟨y1, y2⟩ := hy
    obtain ⟨m, rfl⟩ : ∃ m : Nat, n = (m : Int) := ⟨n.toNat, by omega⟩
    have g1 : decide (0 ≤ (m : Int)) = true := by simp
    have g2 : decide ((m : Int) ≤ 1000000000000000) = true := by simp; omega
    clear y1
    go_enter Tryd.func3, Tryd.ntmps3
    go_wp2_with (go_at_call 4; refine (awake _).mono ?_; rintro e w1 ⟨rfl, hb1⟩)
    go_wp2_with (go_at_call 5; refine (text_any _ HN.out _ (tab_below hb1 hg HT.out)).mono ?_; rintro e w2 ⟨rfl, hb2⟩)
    go_wp2_with fail
    refine (parse_any _ HS.out _).mono ?_
    rw [hv.out]
    rintro e w3 ⟨rfl, hb3⟩
    go_wp2_with (go_at_call 7; refine (rtext_any _ HN.out _).mono ?_; rintro e w' ⟨rfl, rfl⟩)
    go_ret
    exact ⟨rfl, hb1.trans ((hb2.mono hb1.size).trans (hb3.mono (Nat.le_trans hb1.size hb2.size)))⟩
  · have hv : Hid (parseO (⟨(itoa n).toArray⟩ : ByteArray).data.toList = none) := Lib.hid (by rw [HP.out, if_neg hy])
    have g1 : (decide (0 ≤ n) && decide (n ≤ 1000000000000000)) = false := by simp; omega
    by_cases g2 : n < 0
    all_goals
      first
      | (have g3 : decide (0 ≤ n) = false := by simp; omega
         clear g1 hy)
      | (have g3 : decide (0 ≤ n) = true := by simp; omega
         have g4 : decide (n ≤ 1000000000000000) = false := by simp; omega
         clear g1 hy)
      go_enter Tryd.func3, Tryd.ntmps3
      go_wp2_with (go_at_call 4; refine (awake _).mono ?_; rintro e w1 ⟨rfl, hb1⟩)
      go_wp2_with (go_at_call 5; refine (text_any _ HN.out _ (tab_below hb1 hg HT.out)).mono ?_; rintro e w2 ⟨rfl, hb2⟩)
      go_wp2_with fail
      refine (parse_any _ HS.out _).mono ?_
      rw [hv.out]
      rintro e w3 ⟨rfl, hb3⟩
      go_wp2_with (go_at_call 7; refine (rtext_any _ HN.out _).mono ?_; rintro e w' ⟨rfl, rfl⟩)
      go_ret
      exact ⟨rfl, hb1.trans ((hb2.mono hb1.size).trans (hb3.mono (Nat.le_trans hb1.size hb2.size)))⟩
end Go.Proofs.YtgpfeojnpmgdhaaDoor
