/- The walk of the law on lines. -/
import Derived.Test.YtnnddmojcaicbaaDoorShowAwake
import Derived.Test.YtnnddmojcaicbaaDoorRText
import Derived.Test.YtnnddmojcaicbaaDoorText
import Derived.Test.YtnnddmojcaicbaaDoorRow
import Derived.IntWalk
import Derived.Deep.LoopGhost
import Derived.LoopTactic
namespace Go.Proofs.YtnnddmojcaicbaaDoor
open Go.RowKit
open Go.Lib (itoa)

variable {w : World}

/-- Two strings, one behind the other. -/
theorem cat_is (a b z : ByteArray) (hs : a.size + b.size ≤ 1000000) (h : z = a ++ b) : ∀ W0 : World, (Op.stringOp .add a b).run Tryd.prog W0 = .ok (.string z) W0 := by
  subst h
  exact fun W0 => run_string_add_sum W0 a b (by omega)
/-- Numbers that came in. -/
theorem nums_row {w : World} {a : Option Addr} {len cap : Nat} {zs : List Int} (h : IsRow .i64 w a len cap zs) : IsNums w.heap.size w a len (zs.take len) ∧ ∀ v ∈ zs.take len, Fits v := by
  rcases h with ⟨rfl, rfl, _, rfl⟩ | ⟨x, rfl, h1, h2, h3, h4, h5⟩
  · exact ⟨⟨rfl, .inl rfl⟩, fun v hv => by simp at hv⟩
  · refine ⟨⟨by rw [List.length_take]; omega, ?_⟩, fun v hv => ?_⟩
    · by_cases h0 : len = 0
      · exact .inl h0
      · obtain ⟨b, off, spot⟩ := x
        have hspot : spot = none := by simpa [Addr.add] using World.cell?_spot (h4 0 (by omega))
        subst hspot
        refine .inr ⟨b, off, rfl, World.block_lt_of_cell? w _ (h4 0 (by omega)), fun j y hj => ?_⟩
        have hjl : j < len := by
          have := (List.getElem?_eq_some_iff.1 hj).1
          rw [List.length_take] at this
          omega
        rw [List.getElem?_take, if_pos hjl] at hj
        have hc := h4 j (by omega)
        simp only [Addr.add_lit] at hc
        rw [hc]
        simp [List.getD, hj]
    · have hw := h5 v (List.mem_of_mem_take hv)
      exact fits_of_wf hw
set_option maxHeartbeats 4000000 in
set_option maxRecDepth 100000 in
theorem showLines_walk (H : ShowSpec) (name : ByteArray) (a : Option Addr) (len cap : Nat) (zs : List Int) (hn : name.size ≤ maxLen) (hz : IsRow .i64 w a len cap zs) (hlen : len ≤ maxLen) (ht : Tab w) :
    Calls Tryd.prog 3 #[.string name, .slice a len cap] w (Holds w) := by
  unfold maxLen at hn hlen
  have HT := Lib.hid ht
  have HH := Lib.hid H
  unfold Holds
  by_cases hb1 : 200 < name.size
  · have hd1 : decide ((200 : Int) < (name.size : Int)) = true := by simp; omega
    go_enter Tryd.func3, Tryd.ntmps3
    go_wp2_with (go_at_call 8; refine (show_awake HH.out _ HT.out).mono ?_; rintro e w1 ⟨rfl, hb1⟩; have HB1 := Lib.hid hb1; clear hb1)
    go_ret
    exact ⟨rfl, HB1.out⟩
  have hd1 : decide ((200 : Int) < (name.size : Int)) = false := by simp; omega
  by_cases hb2 : 40 < len
  · have hd2 : decide ((40 : Int) < (len : Int)) = true := by simp; omega
    go_enter Tryd.func3, Tryd.ntmps3
    go_wp2_with (go_at_call 8; refine (show_awake HH.out _ HT.out).mono ?_; rintro e w1 ⟨rfl, hb1⟩; have HB1 := Lib.hid hb1; clear hb1)
    go_ret
    exact ⟨rfl, HB1.out⟩
  have hd2 : decide ((40 : Int) < (len : Int)) = false := by simp; omega
  have hn2 : name.size ≤ 200 := by omega
  have hl40 : len ≤ 40 := by omega
  obtain ⟨hnum, hfit⟩ := nums_row hz
  obtain ⟨l, hl⟩ : ∃ l, zs.take len = l := ⟨_, rfl⟩
  rw [hl] at hnum hfit
  have hll : l.length = len := hnum.1
  have HNUM := Lib.hid hnum
  have HFIT := Lib.hid hfit
  have HLL := Lib.hid hll
  obtain ⟨T, hT⟩ : ∃ T : Int → ByteArray, ∀ n, T n = ⟨(itoa n).toArray⟩ := ⟨_, fun _ => rfl⟩
  have HTX : Hid (∀ (n : Int) (W0 : World), Fits n → Calls Tryd.prog 9 #[.int .i64 n] W0 fun e w' => e = .returned (.string (T n)) ∧ W0 = w') := Lib.hid fun n W0 h1 => by
    rw [hT]
    exact rtext_any n h1 W0
  have HTS : Hid (∀ n, Fits n → (T n).size ≤ 20) := Lib.hid fun n h1 => by
    rw [hT]
    have := itoa_len n h1
    simpa [ByteArray.size] using this
  have HTD := Lib.hid hT
  obtain ⟨nl, hnl⟩ : ∃ nl, name.data.toList = nl := ⟨_, rfl⟩
  have HNL := Lib.hid hnl
  have hne : (name.toList == (⟨#[]⟩ : ByteArray).toList) = decide (nl = []) := by
    rw [← hnl, Go.Lib.toList_data, Go.Lib.toList_data]
    by_cases h : name.data.toList = []
    · rw [h]; rfl
    · rw [decide_eq_false h]
      simpa using h
  have HS0 : Hid (name = ⟨(joinW (wordsS nl (l.take 0))).toArray⟩) := Lib.hid (by
    apply ByteArray.ext
    apply Array.ext'
    rw [← hnl]
    unfold wordsS
    simp
    split
    · rename_i h; rw [h]; rfl
    · simp [joinW, spW])
  clear hz hnum hfit hll hT hnl hl ht H hb1 hb2
  go_enter Tryd.func3, Tryd.ntmps3
  go_wp2_with (go_at_call 8; refine (show_awake HH.out _ HT.out).mono ?_; rintro e w1 ⟨rfl, hb1⟩; have HB1 := Lib.hid hb1; clear hb1)
  go_loopw [5, 21] (fun yv iv wr => ∃ (k : Nat) (y : ByteArray), iv = .int .i64 (k : Int) ∧ yv = .string y ∧ k ≤ len ∧ y.size ≤ 200 + k * 21 ∧ Hid (Below w.heap.size w wr) ∧ Hid (y = ⟨(joinW (wordsS nl (l.take k))).toArray⟩)) (fun _ iv _ => len - (intOf iv).toNat)
  case atStart => exact ⟨0, _, rfl, rfl, Nat.zero_le _, by omega, HB1, HS0⟩
  case round =>
    obtain ⟨k, y, rfl, rfl, hk, hys, HB, HS⟩ := hrel
    clear HS0 HB1
    by_cases hlt : k < len
    · obtain ⟨b, off, v, rfl, hv, q0⟩ := (HNUM.out.later HB.out).at_ hlt
      have hf := HFIT.out v (List.mem_of_getElem? hv)
      have sv := HTS.out v hf
      have HF := Lib.hid hf
      have htk : l.take (k + 1) = l.take k ++ [v] := by rw [List.take_add_one, hv]; rfl
      have HTK := Lib.hid htk
      clear htk hf hv
      by_cases hw : wordsS nl (l.take k) = []
      · obtain ⟨hn0, hl0⟩ := wordsS_nil.1 hw
        have hk0 : k = 0 := by
          have := congrArg List.length hl0
          rw [List.length_take] at this
          have h3 := HLL.out
          simp at this
          rcases this with h | h
          · exact h
          · subst h
            simp at h3
            omega
        subst hk0
        simp only [Nat.add_zero] at q0
        have hne1 : (name.toList == (⟨#[]⟩ : ByteArray).toList) = true := by rw [hne, hn0]; rfl
        have hne2 : (name.toList == []) = true := by rw [Go.Lib.toList_data, HNL.out, hn0]; rfl
        have hne3 : name.toList = [] := by rw [Go.Lib.toList_data, HNL.out, hn0]
        clear hne
        have hye : y = ⟨#[]⟩ := by rw [HS.out, hw]; rfl
        have a1 := cat_is y (T v) (T v) (by omega) (by subst hye; apply ByteArray.ext; simp)
        have HS2 : Hid (T v = ⟨(joinW (wordsS nl (l.take (0 + 1)))).toArray⟩) := Lib.hid (by
          rw [HTK.out, wordsS_snoc, joinW_snoc, if_pos hw, hw, HTD.out]
          rfl)
        have hd0 : decide ((0 : Int) < ((0 : Nat) : Int)) = false := by decide
        clear hye hw
        go_wp2_with (go_at_call 9; refine (HTX.out _ _ HF.out).mono ?_; rintro e w8 ⟨rfl, rfl⟩)
        go_roundw
        case rel => exact ⟨0 + 1, _, by go_num, rfl, by omega, by omega, HB, HS2⟩
        case measure => simp [intOf]; omega
      · obtain ⟨z, hz⟩ : ∃ z, z = y ++ (⟨#[32]⟩ : ByteArray) := ⟨_, rfl⟩
        have hzs : z.size = y.size + 1 := by rw [hz, ByteArray.size_append]; rfl
        have a1 := cat_is y ⟨#[32]⟩ z (by rw [← ByteArray.size_append, ← hz]; omega) hz
        obtain ⟨u, hu⟩ : ∃ u, u = z ++ T v := ⟨_, rfl⟩
        have hus : u.size = z.size + (T v).size := by rw [hu, ByteArray.size_append]
        have a2 := cat_is z (T v) u (by omega) hu
        have HS2 : Hid (u = ⟨(joinW (wordsS nl (l.take (k + 1)))).toArray⟩) := Lib.hid (by
          rw [hu, hz, HTK.out, wordsS_snoc, joinW_snoc, if_neg hw, HS.out, HTD.out]
          apply ByteArray.ext
          apply Array.ext'
          simp)
        clear hz hu
        by_cases hk0 : 0 < k
        · have hd0 : decide ((0 : Int) < (k : Int)) = true := by simp; omega
          go_wp2_with (go_at_call 9; refine (HTX.out _ _ HF.out).mono ?_; rintro e w8 ⟨rfl, rfl⟩)
          go_roundw
          case rel => exact ⟨k + 1, _, by go_num, rfl, by omega, by omega, HB, HS2⟩
          case measure => simp [intOf]; omega
        · obtain rfl : k = 0 := by omega
          simp only [Nat.add_zero] at q0
          have hn0 : nl ≠ [] := fun e => hw (by rw [e]; rfl)
          have hne1 : (name.toList == (⟨#[]⟩ : ByteArray).toList) = false := by rw [hne, decide_eq_false hn0]
          have hne3 : ¬ name.toList = [] := by rw [Go.Lib.toList_data, HNL.out]; exact hn0
          have hne2 : (name.toList == []) = false := by simpa using hne3
          clear hne
          have hd0 : decide ((0 : Int) < ((0 : Nat) : Int)) = false := by decide
          go_wp2_with (go_at_call 9; refine (HTX.out _ _ HF.out).mono ?_; rintro e w8 ⟨rfl, rfl⟩)
          go_roundw
          case rel => exact ⟨0 + 1, _, by go_num, rfl, by omega, by omega, HB, HS2⟩
          case measure => simp [intOf]; omega
    · obtain rfl : k = len := by omega
      obtain ⟨z, hz⟩ : ∃ z : ByteArray, z = ⟨(lineS nl l).toArray⟩ := ⟨_, rfl⟩
      have hyz : z = y ++ (⟨#[10]⟩ : ByteArray) := by
        rw [hz, HS.out, ← HLL.out, List.take_length]
        unfold lineS
        rw [line_join]
        unfold wordsS
        apply ByteArray.ext
        simp
      have a1 := cat_is y ⟨#[10]⟩ z (by have e : (⟨#[10]⟩ : ByteArray).size = 1 := rfl; omega) hyz
      have HLN : Hid (Calls Tryd.prog 10 #[.string name, .slice a k cap] wr fun e w' => e = .returned (.string z) ∧ Below wr.heap.size wr w') := Lib.hid (by
        have h := HH.out.line name a k cap l wr (HT.out.later HB.out) (by omega) (by omega) ((HNUM.out.later HB.out).mono HB.out.size) HFIT.out
        rw [HNL.out, ← hz] at h
        exact h)
      have he : (z.toList == z.toList) = true := by simp
      clear hz hyz
      go_wp2_with (go_at_call 10; refine HLN.out.mono ?_; rintro e w9 ⟨rfl, hb9⟩; have HB9 := Lib.hid (HB.out.trans (hb9.mono HB.out.size)); clear hb9)
      go_ret
      exact ⟨rfl, HB9.out⟩
end Go.Proofs.YtnnddmojcaicbaaDoor
