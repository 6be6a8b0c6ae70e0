/- The walk of the law on an instance's text with one word left out, doubled, or another one in its place. -/
import Derived.Test.YtoafmbjdchkahaaParseBack
namespace Go.Proofs.Ytoafmbjdchkahaa
open Go.RowKit

theorem catB (y v : ByteArray) (c : UInt8) : (y ++ (v ++ ⟨#[c]⟩)).size = y.size + v.size + 1 := by
  rw [ByteArray.size_append, ByteArray.size_append]
  rfl
set_option maxHeartbeats 16000000 in
set_option maxRecDepth 100000 in
theorem parseSpoilt_walk (A : SmA) (s : Sm) (which what : Int) (other : ByteArray) (hwh : 0 ≤ which ∧ which ≤ 65535) (hwt : 0 ≤ what ∧ what ≤ 255) (ho : other.size ≤ maxLen) (w : World) (hs : IsSm w.heap.size w A s) :
    Calls Try.prog 4 #[.agg (smC A s), .int .u16 which, .int .u8 what, .string other] w fun e w' => e = .returned (.bool true) ∧ Below w.heap.size w w' := by
  have HS := Lib.hid (SBox.make w A s)
  have HSM := Lib.hid hs
  unfold maxLen at ho
  by_cases hbig : 50 < other.size
  · have hd : decide ((50 : Int) < (other.size : Int)) = true := by simp; omega
    unfold smC at *
    go_enter Try.func4, Try.ntmps4
    go_wp2_with (go_at_call 8; refine (parse_awake _).mono ?_; rintro e w1 ⟨rfl, hb1⟩; have HS1 := Lib.hid (HS.out.later hb1); clear hb1)
    go_ret
    exact ⟨rfl, HS1.out.below⟩
  have hd : decide ((50 : Int) < (other.size : Int)) = false := by simp; omega
  have ho50 : other.size ≤ 50 := by omega
  have HMK := Lib.hid (fun (W0 : World) (h : IsSm W0.heap.size W0 A s) => make_any A s W0 h)
  have hmay := may_make hs.okl
  have hil := make_len hs.okl
  obtain ⟨x, hx⟩ : ∃ x, makeI s = x := ⟨_, rfl⟩
  rw [hx] at HMK hmay hil
  have HMAY := Lib.hid hmay
  obtain ⟨tx, htx⟩ : ∃ tx : ByteArray, tx = ⟨(textB x).toArray⟩ := ⟨_, rfl⟩
  have htl := text_str htx
  have HTT : Hid (∀ (A2 : InA) (W0 : World), IsIns W0.heap.size W0 A2 x → Calls Try.prog 13 #[.agg (insC A2 x)] W0 fun e w' => e = .returned (.string tx) ∧ Below W0.heap.size W0 w') := Lib.hid (fun A2 W0 h => by rw [htx]; exact text_any A2 x W0 h HMAY.out)
  have hts : toN badB tx.data.toList = tx.size := by rw [htl.1, htl.2]; exact toN_none (text_stands hmay)
  have htz : tx.size ≤ 90000 := by rw [htl.2]; exact text_len hmay
  have hfst : (cutL tx.data.toList 0).map Prod.fst = insW x := by rw [htl.1]; exact text_cut hmay
  have HWD := Lib.hid (fun W0 => words_good tx W0 (by omega) hts)
  obtain ⟨ws, hws⟩ : ∃ ws, cutL tx.data.toList 0 = ws := ⟨_, rfl⟩
  rw [hws] at hfst HWD
  have hn : ws.length ≤ 300 := by rw [← hfst, List.length_map] at hil; exact hil
  have hn1 : 1 ≤ ws.length := by
    have h := congrArg List.length hfst
    rw [List.length_map] at h
    rw [h]
    simp [insW]
  have HFW := Lib.hid (fine_words hmay hfst)
  obtain ⟨q, hq⟩ : ∃ q : Nat, which % (ws.length : Int) = (q : Int) := ⟨(which % (ws.length : Int)).toNat, by
    have := Int.emod_nonneg which (show (ws.length : Int) ≠ 0 by omega)
    omega⟩
  have h10 : ¬ ((ws.length : Int) = 0) := by omega
  have h11 : ((ws.length : Int) == 0) = false := by rw [beq_eq_false_iff_ne]; omega
  have HP : Hid (∀ (y : ByteArray), y.size ≤ 30000 → ∀ W0, Calls Try.prog 9 #[.string y] W0 (Ans (textI y.data.toList) (textAt y.data.toList) (textC y.data.toList) W0)) := Lib.hid fun y hy W0 => parse_ins y W0 (by omega)
  have HR : Hid (∀ (y : ByteArray), y.size ≤ 30000 → ∀ W0, Calls Try.prog 10 #[.string y] W0 (Ans (textI y.data.toList) (textAt y.data.toList) (textC y.data.toList) W0)) := Lib.hid fun y hy W0 => reads_ins y W0 (by omega)
  obtain ⟨hw1, hw2⟩ := hwh
  obtain ⟨ha1, ha2⟩ := hwt
  clear hx hs hmay htx hil htl hts htz hfst hws
  unfold smC at *
  go_enter Try.func4, Try.ntmps4
  go_wp2_with (first
    | (go_at_call 8; refine (parse_awake _).mono ?_; rintro e w1 ⟨rfl, hb1⟩; have HS1 := Lib.hid (HS.out.later hb1); obtain ⟨j0, j1, j2, j3, j4, j5, j6, j7, j8, j9, j10⟩ := HS1.out.cells; clear hb1)
    | (go_at_call 14; refine (HMK.out _ (HS1.out.here HSM.out)).mono ?_; rintro e w2 ⟨⟨A2, rfl, C, D, VK, VT, hown⟩, hb2⟩; have HB2 := Lib.hid (HS1.out.below.trans (hb2.mono HS1.out.below.size)); have HI2 := Lib.hid hown.is_; clear hown hb2 j0 j1 j2 j3 j4 j5 j6 j7 j8 j9 j10)
    | (go_at_call 13; refine (HTT.out A2 _ HI2.out).mono ?_; rintro e w4 ⟨rfl, hb4⟩; have HB4 := Lib.hid (HB2.out.trans (hb4.mono HB2.out.size)); clear hb4))
  refine (HWD.out _).mono ?_
  rintro e w5 ⟨u, rfl, hu, hb5⟩
  have HB5 := Lib.hid (HB4.out.trans (hb5.mono HB4.out.size))
  obtain ⟨ua, uc, hv⟩ := hu.shape
  subst hv
  have HU := Lib.hid hu
  clear hu hb5 HB4 HWD HTT HMK HI2 HB2 HS HS1
  go_wp2_with fail
  rw [hq]
  have HQ := Lib.hid hq
  clear hq
  go_loopw [12, 40] (fun t i wr => ∃ (k : Nat) (y : ByteArray), i = .int .i64 (k : Int) ∧ t = .string y ∧ k ≤ ws.length ∧ y.size ≤ 100 * k ∧ Hid (WRow 47 wr w4.heap.size (.slice ua ws.length uc) ws) ∧ Hid (Below w5.heap.size w5 wr)) (fun _ i _ => ws.length - (intOf i).toNat)
  case atStart => exact ⟨0, _, rfl, rfl, Nat.zero_le _, by decide, HU, Lib.hid (Below.refl _ _)⟩
  case round =>
    obtain ⟨k, y, rfl, rfl, hk, hys, HK, HBW⟩ := hrel
    clear HU
    by_cases hlt : k < ws.length
    · obtain ⟨⟨t, p⟩, hx⟩ : ∃ x, ws[k]? = some x := ⟨_, List.getElem?_eq_getElem hlt⟩
      obtain ⟨gb, gc, hv, _, hgb, hcl, hcm⟩ := HK.out.some_ (by omega)
      injection hv with e1 _ e3
      subst e1 e3
      obtain ⟨c0, c1⟩ := HK.out.cells hx
      have ht6 := (HFW.out _ (List.mem_of_getElem? hx)).2
      have hxs : (⟨t.toArray⟩ : ByteArray).size ≤ 10 := by simpa [ByteArray.size] using ht6
      obtain ⟨v, hxx⟩ : ∃ v : ByteArray, (⟨t.toArray⟩ : ByteArray) = v := ⟨_, rfl⟩
      rw [hxx] at hxs c0
      clear hx hxx ht6
      unfold maxLen at hcm
      have HK2 := Lib.hid (HK.out.below ((Below.refl wr.heap.size wr).alloc (Nat.le_refl _) (.cells #[.string v, .int .i64 (p : Int)] 47)))
      have HB2 := Lib.hid (HBW.out.trans (((Below.refl wr.heap.size wr).alloc (Nat.le_refl _) (.cells #[.string v, .int .i64 (p : Int)] 47)).mono HBW.out.size))
      clear HK HBW
      by_cases hkq : k = q
      · have hdk : ((k : Int) == (q : Int)) = true := by simp; omega
        have hm4 : what % 4 = 0 ∨ what % 4 = 1 ∨ what % 4 = 2 ∨ what % 4 = 3 := by omega
        clear hkq
        rcases hm4 with h5 | h5 | h5 | h5
        · go_wp2_with fail
          go_roundw
          case rel => exact ⟨k + 1, _, by go_num, rfl, by omega, by omega, HK2, HB2⟩
          case measure => simp [intOf]; omega
        · go_wp2_with fail
          go_roundw
          case rel => exact ⟨k + 1, _, by go_num, rfl, by omega, by simp only [catB]; omega, HK2, HB2⟩
          case measure => simp [intOf]; omega
        · go_wp2_with fail
          go_roundw
          case rel => exact ⟨k + 1, _, by go_num, rfl, by omega, by simp only [catB]; omega, HK2, HB2⟩
          case measure => simp [intOf]; omega
        · go_wp2_with fail
          go_roundw
          case rel => exact ⟨k + 1, _, by go_num, rfl, by omega, by simp only [catB]; omega, HK2, HB2⟩
          case measure => simp [intOf]; omega
      · have hdk : ((k : Int) == (q : Int)) = false := by simp; omega
        clear hkq
        go_wp2_with fail
        go_roundw
        case rel => exact ⟨k + 1, _, by go_num, rfl, by omega, by simp only [catB]; omega, HK2, HB2⟩
        case measure => simp [intOf]; omega
    · obtain rfl : k = ws.length := by omega
      have HPy := Lib.hid (HP.out y (by omega))
      have HRy := Lib.hid (HR.out y (by omega))
      have HB1 := Lib.hid (HB5.out.trans (HBW.out.mono HB5.out.size))
      have HL := Lib.hid (textI_light y.data.toList)
      generalize textI y.data.toList = X at *
      generalize textAt y.data.toList = p at *
      generalize textC y.data.toList = c at *
      have e1 : ((p : Int) == (p : Int)) = true := by simp
      have e2 : (c == c) = true := by simp
      have HSR := Lib.hid (sameI_refl X)
      clear HP HR HBW HK HB5 hlt hk hys
      go_wp2_with fail
      refine (HPy.out _).mono ?_
      rintro e w2 ⟨A1, rfl, hi2, hb2⟩
      have HI3 := Lib.hid ((hi2.later ((Below.refl _ _).alloc (Nat.le_refl _) (.cells (insC A1 X) 29))).mono (by simp : w2.heap.size ≤ (w2.alloc (.cells (insC A1 X) 29)).heap.size))
      have HB3 := Lib.hid ((HB1.out.trans (hb2.mono HB1.out.size)).alloc (HB1.out.trans (hb2.mono HB1.out.size)).size (.cells (insC A1 X) 29))
      have HX3 := Lib.hid (heap_alloc_new w2 (.cells (insC A1 X) 29))
      clear HPy hi2 hb2 HB1
      go_wp2_with fail
      obtain ⟨w3, hw3⟩ : ∃ z, z = w2.alloc (.cells (insC A1 X) 29) := ⟨_, rfl⟩
      rw [← hw3] at HI3 HB3 HX3 ⊢
      clear hw3
      obtain ⟨b1, hb1⟩ : ∃ b, w2.heap.size = b := ⟨_, rfl⟩
      rw [hb1] at HX3 ⊢
      clear hb1
      refine (HRy.out _).mono ?_
      rintro e w4 ⟨A2, rfl, hi4, hb4⟩
      have hb5 := (Below.refl w4.heap.size w4).alloc (Nat.le_refl _) (.cells (insC A2 X) 29)
      have hs4 : w4.heap.size ≤ (w4.alloc (.cells (insC A2 X) 29)).heap.size := by simp
      have HJ5 := Lib.hid ((hi4.later hb5).mono hs4)
      have HI5 := Lib.hid ((HI3.out.later (hb4.trans (hb5.mono hb4.size))).mono (Nat.le_trans hb4.size hs4))
      have HB5 := Lib.hid (HB3.out.trans ((hb4.trans (hb5.mono hb4.size)).mono HB3.out.size))
      have hx5 := heap_alloc_new w4 (.cells (insC A2 X) 29)
      have hy5 := ((hb4.trans (hb5.mono hb4.size)).block b1 (Array.getElem?_eq_some_iff.1 HX3.out).1).trans HX3.out
      unfold insC at hx5 hy5
      obtain ⟨y0, y1, y2, y3, y4, y5, y6, y7, y8, _⟩ := cells9 hx5
      obtain ⟨x0, x1, x2, x3, x4, x5, x6, x7, x8, _⟩ := cells9 hy5
      have HSm := Lib.hid (lawSame_any A1 A2 X X _ HI5.out HJ5.out HL.out)
      clear HRy hi4 hb4 hb5 hs4 hx5 hy5 HX3
      unfold insC at *
      go_wp2_with (go_at_call 11; refine HSm.out.mono ?_; rintro e w6 ⟨rfl, hb6⟩; have HB6 := Lib.hid (HB5.out.trans (hb6.mono HB5.out.size)); clear hb6; rw [HSR.out])
      go_ret
      exact ⟨rfl, HB6.out⟩
end Go.Proofs.Ytoafmbjdchkahaa
