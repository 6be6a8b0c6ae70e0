/- The reference's Text. -/
import Derived.Test.YtnnddmojcaicbaaDoorRows
import Derived.Test.YtnnddmojcaicbaaDoorPlA
import Derived.WalkKit
import Derived.WalkLawsBesides
import Derived.Lib.Hide
namespace Go.Proofs.YtnnddmojcaicbaaDoor
open Go.RowKit
open Go.Lib (decDigits itoa)

/-- The digit d as a byte. -/
def digB (d : Nat) : UInt8 := UInt8.ofNat (48 + d)
theorem digit_0 (w : World) : (Instr.slice 9 (.string ⟨#[48, 49, 50, 51, 52, 53, 54, 55, 56, 57]⟩) (some (.int .i64 0)) (some (.int .i64 1)) none).run Tryd.prog w = .ok (.string ⟨#[48]⟩) w := by kernel_rfl
theorem digit_1 (w : World) : (Instr.slice 9 (.string ⟨#[48, 49, 50, 51, 52, 53, 54, 55, 56, 57]⟩) (some (.int .i64 1)) (some (.int .i64 2)) none).run Tryd.prog w = .ok (.string ⟨#[49]⟩) w := by kernel_rfl
theorem digit_2 (w : World) : (Instr.slice 9 (.string ⟨#[48, 49, 50, 51, 52, 53, 54, 55, 56, 57]⟩) (some (.int .i64 2)) (some (.int .i64 3)) none).run Tryd.prog w = .ok (.string ⟨#[50]⟩) w := by kernel_rfl
theorem digit_3 (w : World) : (Instr.slice 9 (.string ⟨#[48, 49, 50, 51, 52, 53, 54, 55, 56, 57]⟩) (some (.int .i64 3)) (some (.int .i64 4)) none).run Tryd.prog w = .ok (.string ⟨#[51]⟩) w := by kernel_rfl
theorem digit_4 (w : World) : (Instr.slice 9 (.string ⟨#[48, 49, 50, 51, 52, 53, 54, 55, 56, 57]⟩) (some (.int .i64 4)) (some (.int .i64 5)) none).run Tryd.prog w = .ok (.string ⟨#[52]⟩) w := by kernel_rfl
theorem digit_5 (w : World) : (Instr.slice 9 (.string ⟨#[48, 49, 50, 51, 52, 53, 54, 55, 56, 57]⟩) (some (.int .i64 5)) (some (.int .i64 6)) none).run Tryd.prog w = .ok (.string ⟨#[53]⟩) w := by kernel_rfl
theorem digit_6 (w : World) : (Instr.slice 9 (.string ⟨#[48, 49, 50, 51, 52, 53, 54, 55, 56, 57]⟩) (some (.int .i64 6)) (some (.int .i64 7)) none).run Tryd.prog w = .ok (.string ⟨#[54]⟩) w := by kernel_rfl
theorem digit_7 (w : World) : (Instr.slice 9 (.string ⟨#[48, 49, 50, 51, 52, 53, 54, 55, 56, 57]⟩) (some (.int .i64 7)) (some (.int .i64 8)) none).run Tryd.prog w = .ok (.string ⟨#[55]⟩) w := by kernel_rfl
theorem digit_8 (w : World) : (Instr.slice 9 (.string ⟨#[48, 49, 50, 51, 52, 53, 54, 55, 56, 57]⟩) (some (.int .i64 8)) (some (.int .i64 9)) none).run Tryd.prog w = .ok (.string ⟨#[56]⟩) w := by kernel_rfl
theorem digit_9 (w : World) : (Instr.slice 9 (.string ⟨#[48, 49, 50, 51, 52, 53, 54, 55, 56, 57]⟩) (some (.int .i64 9)) (some (.int .i64 10)) none).run Tryd.prog w = .ok (.string ⟨#[57]⟩) w := by kernel_rfl
theorem digit_piece (d : Nat) (hd : d < 10) (w : World) : (Instr.slice 9 (.string ⟨#[48, 49, 50, 51, 52, 53, 54, 55, 56, 57]⟩) (some (.int .i64 (d : Int))) (some (.int .i64 ((d : Int) + 1))) none).run Tryd.prog w = .ok (.string ⟨#[digB d]⟩) w := by
  have : d = 0 ∨ d = 1 ∨ d = 2 ∨ d = 3 ∨ d = 4 ∨ d = 5 ∨ d = 6 ∨ d = 7 ∨ d = 8 ∨ d = 9 := by omega
  rcases this with rfl | rfl | rfl | rfl | rfl | rfl | rfl | rfl | rfl | rfl
  · exact digit_0 w
  · exact digit_1 w
  · exact digit_2 w
  · exact digit_3 w
  · exact digit_4 w
  · exact digit_5 w
  · exact digit_6 w
  · exact digit_7 w
  · exact digit_8 w
  · exact digit_9 w

theorem piece0 : (⟨#[48, 49, 50, 51, 52, 53, 54, 55, 56, 57]⟩ : ByteArray).extract 0 1 = ⟨#[digB 0]⟩ := by decide +kernel
theorem cat_digit (d : UInt8) (l : List UInt8) : (⟨#[d]⟩ : ByteArray) ++ ⟨l.toArray⟩ = ⟨(d :: l).toArray⟩ := by
  apply ByteArray.ext; simp

theorem dec_step (z d q : Nat) (l : List UInt8) (k : List UInt8) (h : k = decDigits z ++ l) (hd : z % 10 = d) (hq : z / 10 = q) (h0 : q ≠ 0) : k = decDigits q ++ (digB d :: l) := by
  rw [h, decDigits, dif_neg (by omega), hd, hq]; simp [digB]
theorem dec_stop (z d q : Nat) (l : List UInt8) (k : List UInt8) (h : k = decDigits z ++ l) (hd : z % 10 = d) (hq : z / 10 = q) (h0 : q = 0) : k = digB d :: l := by
  rw [h, decDigits, dif_pos (by omega), show z = d by omega]; simp [digB]
theorem dec_len (n : Int) (z : Nat) (l : List UInt8) (h : decDigits n.natAbs = decDigits z ++ l) (n1 : -9223372036854775808 ≤ n) (n2 : n ≤ 9223372036854775807) : l.length ≤ 19 := by
  have h1 := nDigits_le n.natAbs 19 (by omega) (by omega)
  rw [h, List.length_append] at h1
  omega
theorem itoa_neg (n : Int) (d : UInt8) (l : List UInt8) (h : decDigits n.natAbs = d :: l) (hn : n < 0) : (⟨#[45]⟩ : ByteArray) ++ (⟨#[d]⟩ ++ ⟨l.toArray⟩) = ⟨(itoa n).toArray⟩ := by
  rw [cat_digit, cat_digit, itoa, if_pos hn, h]
theorem itoa_pos (n : Int) (d : UInt8) (l : List UInt8) (h : decDigits n.natAbs = d :: l) (hn : ¬ n < 0) : (⟨#[d]⟩ : ByteArray) ++ ⟨l.toArray⟩ = ⟨(itoa n).toArray⟩ := by
  rw [cat_digit, itoa, if_neg hn, show n.toNat = n.natAbs by omega, h]
theorem ret_str {a b : ByteArray} (h : a = b) : Ending.returned (.string a) = .returned (.string b) := by rw [h]

theorem rtext_any (n : Int) (hn : Fits n) (w : World) : Calls Tryd.prog 9 #[.int .i64 n] w fun e w' => e = .returned (.string ⟨(itoa n).toArray⟩) ∧ w = w' := by
  unfold Fits at hn
  obtain ⟨n1, n2⟩ := hn
  go_enter Tryd.func9, Tryd.ntmps9
  go_wp2
  go_loop [3, 4] (fun s k => ∃ (l : List UInt8) (z : Int), s = .string ⟨l.toArray⟩ ∧ k = .int .i64 z ∧ -9223372036854775808 ≤ z ∧ z ≤ 9223372036854775807 ∧ decDigits n.natAbs = decDigits z.natAbs ++ l) (fun _ k => (intOf k).natAbs)
  case atStart => exact ⟨[], n, rfl, rfl, n1, n2, by simp⟩
  case round =>
    obtain ⟨l, z, rfl, rfl, z1, z2, hl⟩ := hrel
    have hlen := dec_len n _ l hl n1 n2
    have HL := Lib.hid hl; clear hl
    obtain ⟨d, hd⟩ : ∃ d, d = z.natAbs % 10 := ⟨_, rfl⟩
    obtain ⟨q, hq⟩ : ∃ q, q = z.natAbs / 10 := ⟨_, rfl⟩
    have hd9 : d < 10 := by omega
    have HD := Lib.hid hd.symm
    have HQ := Lib.hid hq.symm
    have hsl := digit_piece d hd9
    by_cases hz : 0 ≤ z
    · have e1 : z % 10 = (d : Int) := by omega
      have e2 : z / 10 = (q : Int) := by omega
      have b1 : (d : Int) ≤ 9 := by omega
      by_cases hq0 : q = 0
      · have hqb : ((q : Int) == 0) = true := by simp [hq0]
        have HQ0 := Lib.hid hq0
        clear hd hq hq0
        by_cases hneg : n < 0
        · go_wp2
          go_ret
          exact ⟨ret_str (itoa_neg n _ l (dec_stop _ d q l _ HL.out HD.out HQ.out HQ0.out) hneg), rfl⟩
        · go_wp2
          go_ret
          exact ⟨ret_str (itoa_pos n _ l (dec_stop _ d q l _ HL.out HD.out HQ.out HQ0.out) (by omega)), rfl⟩
      · have hqb : ((q : Int) == 0) = false := by simp [hq0]
        have HQ0 := Lib.hid hq0
        have HM : Hid (q < z.natAbs ∧ (q : Int) ≤ 9223372036854775807) := Lib.hid (by omega)
        clear hd hq hq0
        go_wp2
        go_round
        case rel => exact ⟨_ :: l, q, by rw [cat_digit], by rw [e2], by omega, HM.out.2, dec_step _ d q l _ HL.out HD.out HQ.out HQ0.out⟩
        case measure => have := HM.out.1; simp [intOf]; omega
    · have e2 : z.tdiv 10 = -(q : Int) := by
        obtain ⟨m, rfl⟩ : ∃ m : Nat, z = -(m : Int) := ⟨z.natAbs, by omega⟩
        rw [Int.neg_tdiv]; simp at hq; rw [hq]; rfl
      have e1 : z.tmod 10 = -(d : Int) := by
        obtain ⟨m, rfl⟩ : ∃ m : Nat, z = -(m : Int) := ⟨z.natAbs, by omega⟩
        rw [Int.neg_tmod]; simp at hd; rw [hd]; rfl
      have b1 : (d : Int) ≤ 9 := by omega
      have b2 : (q : Int) ≤ 922337203685477580 := by omega
      have HM : Hid (q < z.natAbs ∧ (q : Int) ≤ 9223372036854775807) := Lib.hid (by omega)
      by_cases hd0 : d = 0
      · have HD0 := Lib.hid hd0
        subst hd0
        by_cases hq0 : q = 0
        · have hqb : ((q : Int) == 0) = true := by simp [hq0]
          have hqc : (-(q : Int) == 0) = true := by simp [hq0]
          have HQ0 := Lib.hid hq0
          clear hd hq hq0
          by_cases hneg : n < 0
          · go_wp2
            go_ret
            exact ⟨ret_str (itoa_neg n _ l (dec_stop _ 0 q l _ HL.out HD.out HQ.out HQ0.out) hneg), rfl⟩
          · go_wp2
            go_ret
            exact ⟨ret_str (itoa_pos n _ l (dec_stop _ 0 q l _ HL.out HD.out HQ.out HQ0.out) (by omega)), rfl⟩
        · have hqb : ((q : Int) == 0) = false := by simp [hq0]
          have hqc : (-(q : Int) == 0) = false := by simp; omega
          have HQ0 := Lib.hid hq0
          clear hd hq hq0
          go_wp2
          go_round
          case rel => exact ⟨_ :: l, -(q : Int), by rw [piece0, cat_digit], rfl, by omega, by omega, dec_step _ 0 _ l _ HL.out HD.out (by rw [Int.natAbs_neg]; exact HQ.out) (by have := HQ0.out; omega)⟩
          case measure => have := HM.out.1; simp [intOf]; omega
      · have b3 : 1 ≤ (d : Int) := by omega
        by_cases hq0 : q = 0
        · have hqb : ((q : Int) == 0) = true := by simp [hq0]
          have hqc : (-(q : Int) == 0) = true := by simp [hq0]
          have HQ0 := Lib.hid hq0
          clear hd hq hq0
          by_cases hneg : n < 0
          · go_wp2
            go_ret
            exact ⟨ret_str (itoa_neg n _ l (dec_stop _ d q l _ HL.out HD.out HQ.out HQ0.out) hneg), rfl⟩
          · go_wp2
            go_ret
            exact ⟨ret_str (itoa_pos n _ l (dec_stop _ d q l _ HL.out HD.out HQ.out HQ0.out) (by omega)), rfl⟩
        · have hqb : ((q : Int) == 0) = false := by simp [hq0]
          have hqc : (-(q : Int) == 0) = false := by simp; omega
          have HQ0 := Lib.hid hq0
          clear hd hq hq0
          go_wp2
          go_round
          case rel => exact ⟨_ :: l, -(q : Int), by rw [cat_digit], rfl, by omega, by omega, dec_step _ d _ l _ HL.out HD.out (by rw [Int.natAbs_neg]; exact HQ.out) (by have := HQ0.out; omega)⟩
          case measure => have := HM.out.1; simp [intOf]; omega

end Go.Proofs.YtnnddmojcaicbaaDoor
