/- The reference's Text, and its Parse. -/
import Derived.Test.YtgpfeojnpmgdhaaRows
import Derived.Test.YtgpfeojnpmgdhaaPlain
import Derived.Test.YtgpfeojnpmgdhaaDigits
import Derived.WalkKit
import Derived.WalkLawsBesides
import Derived.Lib.Hide
namespace Go.Proofs.Ytgpfeojnpmgdhaa
open Go.RowKit
open Go.Lib (decDigits itoa)

/-- The digit d as a byte. -/
def digB (d : Nat) : UInt8 := UInt8.ofNat (48 + d)
theorem digit_0 (w : World) : (Instr.slice 9 (.string ⟨#[48, 49, 50, 51, 52, 53, 54, 55, 56, 57]⟩) (some (.int .i64 0)) (some (.int .i64 1)) none).run Try.prog w = .ok (.string ⟨#[48]⟩) w := by kernel_rfl
theorem digit_1 (w : World) : (Instr.slice 9 (.string ⟨#[48, 49, 50, 51, 52, 53, 54, 55, 56, 57]⟩) (some (.int .i64 1)) (some (.int .i64 2)) none).run Try.prog w = .ok (.string ⟨#[49]⟩) w := by kernel_rfl
theorem digit_2 (w : World) : (Instr.slice 9 (.string ⟨#[48, 49, 50, 51, 52, 53, 54, 55, 56, 57]⟩) (some (.int .i64 2)) (some (.int .i64 3)) none).run Try.prog w = .ok (.string ⟨#[50]⟩) w := by kernel_rfl
theorem digit_3 (w : World) : (Instr.slice 9 (.string ⟨#[48, 49, 50, 51, 52, 53, 54, 55, 56, 57]⟩) (some (.int .i64 3)) (some (.int .i64 4)) none).run Try.prog w = .ok (.string ⟨#[51]⟩) w := by kernel_rfl
theorem digit_4 (w : World) : (Instr.slice 9 (.string ⟨#[48, 49, 50, 51, 52, 53, 54, 55, 56, 57]⟩) (some (.int .i64 4)) (some (.int .i64 5)) none).run Try.prog w = .ok (.string ⟨#[52]⟩) w := by kernel_rfl
theorem digit_5 (w : World) : (Instr.slice 9 (.string ⟨#[48, 49, 50, 51, 52, 53, 54, 55, 56, 57]⟩) (some (.int .i64 5)) (some (.int .i64 6)) none).run Try.prog w = .ok (.string ⟨#[53]⟩) w := by kernel_rfl
theorem digit_6 (w : World) : (Instr.slice 9 (.string ⟨#[48, 49, 50, 51, 52, 53, 54, 55, 56, 57]⟩) (some (.int .i64 6)) (some (.int .i64 7)) none).run Try.prog w = .ok (.string ⟨#[54]⟩) w := by kernel_rfl
theorem digit_7 (w : World) : (Instr.slice 9 (.string ⟨#[48, 49, 50, 51, 52, 53, 54, 55, 56, 57]⟩) (some (.int .i64 7)) (some (.int .i64 8)) none).run Try.prog w = .ok (.string ⟨#[55]⟩) w := by kernel_rfl
theorem digit_8 (w : World) : (Instr.slice 9 (.string ⟨#[48, 49, 50, 51, 52, 53, 54, 55, 56, 57]⟩) (some (.int .i64 8)) (some (.int .i64 9)) none).run Try.prog w = .ok (.string ⟨#[56]⟩) w := by kernel_rfl
theorem digit_9 (w : World) : (Instr.slice 9 (.string ⟨#[48, 49, 50, 51, 52, 53, 54, 55, 56, 57]⟩) (some (.int .i64 9)) (some (.int .i64 10)) none).run Try.prog w = .ok (.string ⟨#[57]⟩) w := by kernel_rfl
theorem digit_piece (d : Nat) (hd : d < 10) (w : World) : (Instr.slice 9 (.string ⟨#[48, 49, 50, 51, 52, 53, 54, 55, 56, 57]⟩) (some (.int .i64 (d : Int))) (some (.int .i64 ((d : Int) + 1))) none).run Try.prog w = .ok (.string ⟨#[digB d]⟩) w := by
  have : d = 0 ∨ d = 1 ∨ d = 2 ∨ d = 3 ∨ d = 4 ∨ d = 5 ∨ d = 6 ∨ d = 7 ∨ d = 8 ∨ d = 9 := by omega
  rcases this with rfl | rfl | rfl | rfl | rfl | rfl | rfl | rfl | rfl | rfl
  · exact digit_0 w
  · exact digit_1 w
  · exact digit_2 w
  · exact digit_3 w
  · exact digit_4 w
  · exact digit_5 w
  · exact digit_6 w
  · exact digit_7 w
  · exact digit_8 w
  · exact digit_9 w

theorem piece0 : (⟨#[48, 49, 50, 51, 52, 53, 54, 55, 56, 57]⟩ : ByteArray).extract 0 1 = ⟨#[digB 0]⟩ := by decide +kernel
theorem cat_digit (d : UInt8) (l : List UInt8) : (⟨#[d]⟩ : ByteArray) ++ ⟨l.toArray⟩ = ⟨(d :: l).toArray⟩ := by
  apply ByteArray.ext; simp

theorem dec_step (z d q : Nat) (l : List UInt8) (k : List UInt8) (h : k = decDigits z ++ l) (hd : z % 10 = d) (hq : z / 10 = q) (h0 : q ≠ 0) : k = decDigits q ++ (digB d :: l) := by
  rw [h, decDigits, dif_neg (by omega), hd, hq]; simp [digB]
theorem dec_stop (z d q : Nat) (l : List UInt8) (k : List UInt8) (h : k = decDigits z ++ l) (hd : z % 10 = d) (hq : z / 10 = q) (h0 : q = 0) : k = digB d :: l := by
  rw [h, decDigits, dif_pos (by omega), show z = d by omega]; simp [digB]
theorem dec_len (n : Int) (z : Nat) (l : List UInt8) (h : decDigits n.natAbs = decDigits z ++ l) (n1 : -9223372036854775808 ≤ n) (n2 : n ≤ 9223372036854775807) : l.length ≤ 19 := by
  have h1 := nDigits_le n.natAbs 19 (by omega) (by omega)
  rw [h, List.length_append] at h1
  omega
theorem itoa_neg (n : Int) (d : UInt8) (l : List UInt8) (h : decDigits n.natAbs = d :: l) (hn : n < 0) : (⟨#[45]⟩ : ByteArray) ++ (⟨#[d]⟩ ++ ⟨l.toArray⟩) = ⟨(itoa n).toArray⟩ := by
  rw [cat_digit, cat_digit, itoa, if_pos hn, h]
theorem itoa_pos (n : Int) (d : UInt8) (l : List UInt8) (h : decDigits n.natAbs = d :: l) (hn : ¬ n < 0) : (⟨#[d]⟩ : ByteArray) ++ ⟨l.toArray⟩ = ⟨(itoa n).toArray⟩ := by
  rw [cat_digit, itoa, if_neg hn, show n.toNat = n.natAbs by omega, h]
theorem ret_str {a b : ByteArray} (h : a = b) : Ending.returned (.string a) = .returned (.string b) := by rw [h]

theorem rtext_any (n : Int) (hn : Fits n) (w : World) : Calls Try.prog 17 #[.int .i64 n] w fun e w' => e = .returned (.string ⟨(itoa n).toArray⟩) ∧ w = w' := by
  unfold Fits at hn
  obtain ⟨n1, n2⟩ := hn
  go_enter Try.func17, Try.ntmps17
  go_wp2
  go_loop [3, 4] (fun s k => ∃ (l : List UInt8) (z : Int), s = .string ⟨l.toArray⟩ ∧ k = .int .i64 z ∧ -9223372036854775808 ≤ z ∧ z ≤ 9223372036854775807 ∧ decDigits n.natAbs = decDigits z.natAbs ++ l) (fun _ k => (intOf k).natAbs)
  case atStart => exact ⟨[], n, rfl, rfl, n1, n2, by simp⟩
  case round =>
    obtain ⟨l, z, rfl, rfl, z1, z2, hl⟩ := hrel
    have hlen := dec_len n _ l hl n1 n2
    have HL := Lib.hid hl; clear hl
    obtain ⟨d, hd⟩ : ∃ d, d = z.natAbs % 10 := ⟨_, rfl⟩
    obtain ⟨q, hq⟩ : ∃ q, q = z.natAbs / 10 := ⟨_, rfl⟩
    have hd9 : d < 10 := by omega
    have HD := Lib.hid hd.symm
    have HQ := Lib.hid hq.symm
    have hsl := digit_piece d hd9
    by_cases hz : 0 ≤ z
    · have e1 : z % 10 = (d : Int) := by omega
      have e2 : z / 10 = (q : Int) := by omega
      have b1 : (d : Int) ≤ 9 := by omega
      by_cases hq0 : q = 0
      · have hqb : ((q : Int) == 0) = true := by simp [hq0]
        have HQ0 := Lib.hid hq0
        clear hd hq hq0
        by_cases hneg : n < 0
        · go_wp2
          go_ret
          exact ⟨ret_str (itoa_neg n _ l (dec_stop _ d q l _ HL.out HD.out HQ.out HQ0.out) hneg), rfl⟩
        · go_wp2
          go_ret
          exact ⟨ret_str (itoa_pos n _ l (dec_stop _ d q l _ HL.out HD.out HQ.out HQ0.out) (by omega)), rfl⟩
      · have hqb : ((q : Int) == 0) = false := by simp [hq0]
        have HQ0 := Lib.hid hq0
        have HM : Hid (q < z.natAbs ∧ (q : Int) ≤ 9223372036854775807) := Lib.hid (by omega)
        clear hd hq hq0
        go_wp2
        go_round
        case rel => exact ⟨_ :: l, q, by rw [cat_digit], by rw [e2], by omega, HM.out.2, dec_step _ d q l _ HL.out HD.out HQ.out HQ0.out⟩
        case measure => have := HM.out.1; simp [intOf]; omega
    · have e2 : z.tdiv 10 = -(q : Int) := by
        obtain ⟨m, rfl⟩ : ∃ m : Nat, z = -(m : Int) := ⟨z.natAbs, by omega⟩
        rw [Int.neg_tdiv]; simp at hq; rw [hq]; rfl
      have e1 : z.tmod 10 = -(d : Int) := by
        obtain ⟨m, rfl⟩ : ∃ m : Nat, z = -(m : Int) := ⟨z.natAbs, by omega⟩
        rw [Int.neg_tmod]; simp at hd; rw [hd]; rfl
      have b1 : (d : Int) ≤ 9 := by omega
      have b2 : (q : Int) ≤ 922337203685477580 := by omega
      have HM : Hid (q < z.natAbs ∧ (q : Int) ≤ 9223372036854775807) := Lib.hid (by omega)
      by_cases hd0 : d = 0
      · have HD0 := Lib.hid hd0
        subst hd0
        by_cases hq0 : q = 0
        · have hqb : ((q : Int) == 0) = true := by simp [hq0]
          have hqc : (-(q : Int) == 0) = true := by simp [hq0]
          have HQ0 := Lib.hid hq0
          clear hd hq hq0
          by_cases hneg : n < 0
          · go_wp2
            go_ret
            exact ⟨ret_str (itoa_neg n _ l (dec_stop _ 0 q l _ HL.out HD.out HQ.out HQ0.out) hneg), rfl⟩
          · go_wp2
            go_ret
            exact ⟨ret_str (itoa_pos n _ l (dec_stop _ 0 q l _ HL.out HD.out HQ.out HQ0.out) (by omega)), rfl⟩
        · have hqb : ((q : Int) == 0) = false := by simp [hq0]
          have hqc : (-(q : Int) == 0) = false := by simp; omega
          have HQ0 := Lib.hid hq0
          clear hd hq hq0
          go_wp2
          go_round
          case rel => exact ⟨_ :: l, -(q : Int), by rw [piece0, cat_digit], rfl, by omega, by omega, dec_step _ 0 _ l _ HL.out HD.out (by rw [Int.natAbs_neg]; exact HQ.out) (by have := HQ0.out; omega)⟩
          case measure => have := HM.out.1; simp [intOf]; omega
      · have b3 : 1 ≤ (d : Int) := by omega
        by_cases hq0 : q = 0
        · have hqb : ((q : Int) == 0) = true := by simp [hq0]
          have hqc : (-(q : Int) == 0) = true := by simp [hq0]
          have HQ0 := Lib.hid hq0
          clear hd hq hq0
          by_cases hneg : n < 0
          · go_wp2
            go_ret
            exact ⟨ret_str (itoa_neg n _ l (dec_stop _ d q l _ HL.out HD.out HQ.out HQ0.out) hneg), rfl⟩
          · go_wp2
            go_ret
            exact ⟨ret_str (itoa_pos n _ l (dec_stop _ d q l _ HL.out HD.out HQ.out HQ0.out) (by omega)), rfl⟩
        · have hqb : ((q : Int) == 0) = false := by simp [hq0]
          have hqc : (-(q : Int) == 0) = false := by simp; omega
          have HQ0 := Lib.hid hq0
          clear hd hq hq0
          go_wp2
          go_round
          case rel => exact ⟨_ :: l, -(q : Int), by rw [cat_digit], rfl, by omega, by omega, dec_step _ d _ l _ HL.out HD.out (by rw [Int.natAbs_neg]; exact HQ.out) (by have := HQ0.out; omega)⟩
          case measure => have := HM.out.1; simp [intOf]; omega

/-- The texts as strings: told again it is the same. -/
theorem rparse_any (s : ByteArray) (hs : s.size ≤ maxLen) (w : World) : Calls Try.prog 16 #[.string s] w fun e w' => e = .returned (.tuple #[.int .i64 (((parseO s.data.toList).getD 0 : Nat) : Int), .bool (parseO s.data.toList).isSome]) ∧ w = w' := by
  unfold maxLen at hs
  by_cases hlong : 16 < s.size
  · have hv : Hid (parseO s.data.toList = none) := Lib.hid (parse_long _ (by simpa using hlong))
    go_enter Try.func16, Try.ntmps16
    go_wp2
    go_ret2
    exact ⟨by rw [hv.out]; rfl, rfl⟩
  · go_enter Try.func16, Try.ntmps16
    go_wp2
    go_loop [4, 5] (fun n i => ∃ k : Nat, k ≤ s.size ∧ i = .int .i64 k ∧ n = .int .i64 (valOf (s.data.toList.take k) : Nat) ∧ (s.data.toList.take k).all isDig = true) (fun _ i => s.size - (intOf i).toNat)
    case atStart => exact ⟨0, Nat.zero_le _, rfl, rfl, rfl⟩
    case round =>
      obtain ⟨k, hk, rfl, rfl, hall⟩ := hrel
      have HA := Lib.hid hall; clear hall
      have hb : valOf (s.data.toList.take k) < 10 ^ 16 := Nat.lt_of_lt_of_le (valOf_lt _ HA.out) (Nat.pow_le_pow_right (by omega) (by simp; omega))
      have hb1 : (valOf (s.data.toList.take k) : Int) ≤ 10000000000000000 := by omega
      clear hb
      by_cases hlt : k < s.size
      · have hmem : s[k] ∈ s.data.toList := by
          have : s[k] = s.data[k] := rfl
          rw [this]; exact Array.getElem_mem_toList _
        have hsn : Hid (s.data.toList.take (k + 1) = s.data.toList.take k ++ [s[k]]) := Lib.hid (take_snoc s.data.toList k (by simpa using hlt))
        by_cases hd : isDig s[k] = true
        · have HD := Lib.hid hd
          have hr : 48 ≤ s[k].toNat ∧ s[k].toNat ≤ 57 := by simpa [isDig] using hd
          clear hd hmem
          obtain ⟨r1, r2⟩ := hr
          have r3 : (48 : Int) ≤ (s[k].toNat : Int) := by omega
          have r4 : (s[k].toNat : Int) ≤ 57 := by omega
          go_wp2
          go_round
          case rel => exact ⟨k + 1, by omega, by go_num, by rw [hsn.out, valOf_snoc]; go_num, by rw [hsn.out, List.all_append, HA.out]; simp [HD.out]⟩
          case measure => simp [intOf]; omega
        · have hv : Hid (parseO s.data.toList = none) := Lib.hid (parse_bad _ _ hmem (by simpa using hd))
          have hr : ¬ (48 ≤ s[k].toNat ∧ s[k].toNat ≤ 57) := by simpa [isDig] using hd
          clear hd hmem
          by_cases c1 : (s[k].toNat : Int) < 48
          · clear hr
            go_wp2
            go_ret2
            exact ⟨by rw [hv.out]; rfl, rfl⟩
          · have c2 : 57 < (s[k].toNat : Int) := by omega
            clear hr
            go_wp2
            go_ret2
            exact ⟨by rw [hv.out]; rfl, rfl⟩
      · obtain rfl : k = s.size := by omega
        have htk : s.data.toList.take s.size = s.data.toList := List.take_of_length_le (by simp)
        rw [htk] at HA hb1
        rw [htk]
        generalize hV : valOf s.data.toList = V at hb1 ⊢
        have HV := Lib.hid hV; clear hV
        have hit : itoa (V : Int) = decDigits V := by rw [itoa, if_neg (by omega)]; rfl
        by_cases hg : V ≤ 1000000000000000
        · have hg1 : (V : Int) ≤ 1000000000000000 := by omega
          have hg2 : decide (1000000000000000 < (V : Int)) = false := by simp; omega
          by_cases he : decDigits V = s.data.toList
          · have hv : Hid (parseO s.data.toList = some V) := Lib.hid (by rw [parse_yes _ HA.out (by rw [HV.out]; exact hg) (by rw [HV.out]; exact he), HV.out])
            have hs2 : (itoa (V : Int) == s.toList) = true := by rw [hit, he, Go.Lib.toList_data]; simp
            clear he hg hit htk
            go_wp2_with (go_at_call 17; refine (rtext_any _ (by unfold Fits; omega) _).mono ?_; rintro e w' ⟨rfl, rfl⟩)
            go_ret2
            exact ⟨by rw [hv.out]; rfl, rfl⟩
          · have hv : Hid (parseO s.data.toList = none) := Lib.hid (parse_other _ (by rw [HV.out]; exact he))
            have hs2 : (itoa (V : Int) == s.toList) = false := by rw [hit, Go.Lib.toList_data]; simpa using he
            clear he hg hit htk
            go_wp2_with (go_at_call 17; refine (rtext_any _ (by unfold Fits; omega) _).mono ?_; rintro e w' ⟨rfl, rfl⟩)
            go_ret2
            exact ⟨by rw [hv.out]; rfl, rfl⟩
        · have hv : Hid (parseO s.data.toList = none) := Lib.hid (parse_great _ (by rw [HV.out]; exact hg))
          have hg1 : 1000000000000000 < (V : Int) := by omega
          have hg2 : decide (1000000000000000 < (V : Int)) = true := by simpa using hg1
          clear hg hit htk
          go_wp2
          go_ret2
          exact ⟨by rw [hv.out]; rfl, rfl⟩
end Go.Proofs.Ytgpfeojnpmgdhaa
