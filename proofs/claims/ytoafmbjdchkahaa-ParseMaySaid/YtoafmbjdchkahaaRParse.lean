/- The reference's Parse. -/
import Derived.Test.YtoafmbjdchkahaaRText
import Derived.WalkKit
import Derived.WalkLawsBesides
import Derived.Lib.Hide
namespace Go.Proofs.Ytoafmbjdchkahaa
open Go.RowKit
open Go.Lib (decDigits itoa)

/-- The texts as strings: told again it is the same. -/
theorem rparse_any (s : ByteArray) (hs : s.size ≤ maxLen) (w : World) : Calls Try.prog 49 #[.string s] w fun e w' => e = .returned (.tuple #[.int .i64 (((parseO s.data.toList).getD 0 : Nat) : Int), .bool (parseO s.data.toList).isSome]) ∧ w = w' := by
  unfold maxLen at hs
  by_cases hlong : 16 < s.size
  · have hv : Hid (parseO s.data.toList = none) := Lib.hid (parse_long _ (by simpa using hlong))
    go_enter Try.func49, Try.ntmps49
    go_wp2
    go_ret2
    exact ⟨by rw [hv.out]; rfl, rfl⟩
  · go_enter Try.func49, Try.ntmps49
    go_wp2
    go_loop [4, 5] (fun n i => ∃ k : Nat, k ≤ s.size ∧ i = .int .i64 k ∧ n = .int .i64 (valOf (s.data.toList.take k) : Nat) ∧ (s.data.toList.take k).all isDig = true) (fun _ i => s.size - (intOf i).toNat)
    case atStart => exact ⟨0, Nat.zero_le _, rfl, rfl, rfl⟩
    case round =>
      obtain ⟨k, hk, rfl, rfl, hall⟩ := hrel
      have HA := Lib.hid hall; clear hall
      have hb : valOf (s.data.toList.take k) < 10 ^ 16 := Nat.lt_of_lt_of_le (valOf_lt _ HA.out) (Nat.pow_le_pow_right (by omega) (by simp; omega))
      have hb1 : (valOf (s.data.toList.take k) : Int) ≤ 10000000000000000 := by omega
      clear hb
      by_cases hlt : k < s.size
      · have hmem : s[k] ∈ s.data.toList := by
          have : s[k] = s.data[k] := rfl
          rw [this]; exact Array.getElem_mem_toList _
        have hsn : Hid (s.data.toList.take (k + 1) = s.data.toList.take k ++ [s[k]]) := Lib.hid (take_snoc s.data.toList k (by simpa using hlt))
        by_cases hd : isDig s[k] = true
        · have HD := Lib.hid hd
          have hr : 48 ≤ s[k].toNat ∧ s[k].toNat ≤ 57 := by simpa [isDig] using hd
          clear hd hmem
          obtain ⟨r1, r2⟩ := hr
          have r3 : (48 : Int) ≤ (s[k].toNat : Int) := by omega
          have r4 : (s[k].toNat : Int) ≤ 57 := by omega
          go_wp2
          go_round
          case rel => exact ⟨k + 1, by omega, by go_num, by rw [hsn.out, valOf_snoc]; go_num, by rw [hsn.out, List.all_append, HA.out]; simp [HD.out]⟩
          case measure => simp [intOf]; omega
        · have hv : Hid (parseO s.data.toList = none) := Lib.hid (parse_bad _ _ hmem (by simpa using hd))
          have hr : ¬ (48 ≤ s[k].toNat ∧ s[k].toNat ≤ 57) := by simpa [isDig] using hd
          clear hd hmem
          by_cases c1 : (s[k].toNat : Int) < 48
          · clear hr
            go_wp2
            go_ret2
            exact ⟨by rw [hv.out]; rfl, rfl⟩
          · have c2 : 57 < (s[k].toNat : Int) := by omega
            clear hr
            go_wp2
            go_ret2
            exact ⟨by rw [hv.out]; rfl, rfl⟩
      · obtain rfl : k = s.size := by omega
        have htk : s.data.toList.take s.size = s.data.toList := List.take_of_length_le (by simp)
        rw [htk] at HA hb1
        rw [htk]
        generalize hV : valOf s.data.toList = V at hb1 ⊢
        have HV := Lib.hid hV; clear hV
        have hit : itoa (V : Int) = decDigits V := by rw [itoa, if_neg (by omega)]; rfl
        by_cases hg : V ≤ 1000000000000000
        · have hg1 : (V : Int) ≤ 1000000000000000 := by omega
          have hg2 : decide (1000000000000000 < (V : Int)) = false := by simp; omega
          by_cases he : decDigits V = s.data.toList
          · have hv : Hid (parseO s.data.toList = some V) := Lib.hid (by rw [parse_yes _ HA.out (by rw [HV.out]; exact hg) (by rw [HV.out]; exact he), HV.out])
            have hs2 : (itoa (V : Int) == s.toList) = true := by rw [hit, he, Go.Lib.toList_data]; simp
            clear he hg hit htk
            go_wp2_with (go_at_call 35; refine (rtext_any _ (by unfold Fits; omega) _).mono ?_; rintro e w' ⟨rfl, rfl⟩)
            go_ret2
            exact ⟨by rw [hv.out]; rfl, rfl⟩
          · have hv : Hid (parseO s.data.toList = none) := Lib.hid (parse_other _ (by rw [HV.out]; exact he))
            have hs2 : (itoa (V : Int) == s.toList) = false := by rw [hit, Go.Lib.toList_data]; simpa using he
            clear he hg hit htk
            go_wp2_with (go_at_call 35; refine (rtext_any _ (by unfold Fits; omega) _).mono ?_; rintro e w' ⟨rfl, rfl⟩)
            go_ret2
            exact ⟨by rw [hv.out]; rfl, rfl⟩
        · have hv : Hid (parseO s.data.toList = none) := Lib.hid (parse_great _ (by rw [HV.out]; exact hg))
          have hg1 : 1000000000000000 < (V : Int) := by omega
          have hg2 : decide (1000000000000000 < (V : Int)) = true := by simpa using hg1
          clear hg hit htk
          go_wp2
          go_ret2
          exact ⟨by rw [hv.out]; rfl, rfl⟩
end Go.Proofs.Ytoafmbjdchkahaa
