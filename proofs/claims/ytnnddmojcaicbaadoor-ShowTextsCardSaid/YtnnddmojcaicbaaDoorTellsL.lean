/- The law's own line. -/
import Derived.Test.YtnnddmojcaicbaaDoorShowLines
namespace Go.Proofs.YtnnddmojcaicbaaDoor
open Go.RowKit
open Go.Lib (itoa)

theorem empty_is {y : ByteArray} {l : List UInt8} (h : y = ⟨l.toArray⟩) : y.toList = l := by
  subst h
  rw [Go.Lib.toList_data]
set_option maxHeartbeats 4000000 in
set_option maxRecDepth 100000 in
theorem lineT (name : ByteArray) (a : Option Addr) (len cap B : Nat) (l : List Int) (w : World) (hn : name.size ≤ 300) (hlen : len ≤ 100) (hz : IsNums B w a len l) (hf : ∀ v ∈ l, Fits v) :
    Calls Tryd.prog 26 #[.string name, .slice a len cap] w fun e w' => e = .returned (.string ⟨(lineS name.data.toList l).toArray⟩) ∧ w' = w := by
  have HNUM := Lib.hid hz
  have HFIT := Lib.hid hf
  have HLL := Lib.hid hz.1
  obtain ⟨T, hT⟩ : ∃ T : Int → ByteArray, ∀ n, T n = ⟨(itoa n).toArray⟩ := ⟨_, fun _ => rfl⟩
  have HTX : Hid (∀ (n : Int) (W0 : World), Fits n → Calls Tryd.prog 9 #[.int .i64 n] W0 fun e w' => e = .returned (.string (T n)) ∧ W0 = w') := Lib.hid fun n W0 h1 => by
    rw [hT]
    exact rtext_any n h1 W0
  have HTS : Hid (∀ n, Fits n → (T n).size ≤ 20) := Lib.hid fun n h1 => by
    rw [hT]
    have := itoa_len n h1
    simpa [ByteArray.size] using this
  have HTD := Lib.hid hT
  obtain ⟨nl, hnl⟩ : ∃ nl, name.data.toList = nl := ⟨_, rfl⟩
  have HS0 : Hid (name = ⟨(joinW (wordsS nl (l.take 0))).toArray⟩) := Lib.hid (by
    apply ByteArray.ext
    apply Array.ext'
    rw [← hnl]
    unfold wordsS
    simp
    split
    · rename_i h; rw [h]; rfl
    · simp [joinW, spW])
  rw [hnl]
  clear hz hf hT hnl
  go_enter Tryd.func26, Tryd.ntmps26
  go_wp2_with fail
  go_loopw [0, 9] (fun yv iv wr => ∃ (k : Nat) (y : ByteArray), iv = .int .i64 (k : Int) ∧ yv = .string y ∧ k ≤ len ∧ y.size ≤ 300 + k * 21 ∧ Hid (wr = w) ∧ Hid (y = ⟨(joinW (wordsS nl (l.take k))).toArray⟩)) (fun _ iv _ => len - (intOf iv).toNat)
  case atStart => exact ⟨0, _, rfl, rfl, Nat.zero_le _, by omega, Lib.hid rfl, HS0⟩
  case round =>
    obtain ⟨k, y, rfl, rfl, hk, hys, HWR, HS⟩ := hrel
    clear HS0
    by_cases hlt : k < len
    · obtain ⟨b, off, v, rfl, hv, q0⟩ := HNUM.out.at_ hlt
      rw [← HWR.out] at q0
      have hf := HFIT.out v (List.mem_of_getElem? hv)
      have sv := HTS.out v hf
      have HF := Lib.hid hf
      have HTK := Lib.hid (show l.take (k + 1) = l.take k ++ [v] by rw [List.take_add_one, hv]; rfl)
      clear hf hv
      by_cases hw : wordsS nl (l.take k) = []
      · have hye : y = ⟨#[]⟩ := by rw [HS.out, hw]; rfl
        have hyl : y.toList = [] := by rw [empty_is HS.out, hw]; rfl
        have hyb : (y.toList == (⟨#[]⟩ : ByteArray).toList) = true := by rw [hyl, Go.Lib.toList_data]; rfl
        have hyb2 : (y.toList == []) = true := by rw [hyl]; rfl
        have a1 := cat_is y (T v) (T v) (by omega) (by subst hye; apply ByteArray.ext; simp)
        have HS2 : Hid (T v = ⟨(joinW (wordsS nl (l.take (k + 1)))).toArray⟩) := Lib.hid (by
          rw [HTK.out, wordsS_snoc, joinW_snoc, if_pos hw, hw, HTD.out]
          rfl)
        clear hye hw
        go_wp2_with (go_at_call 9; refine (HTX.out _ _ HF.out).mono ?_; rintro e w8 ⟨rfl, rfl⟩)
        go_roundw
        case rel => exact ⟨k + 1, _, by go_num, rfl, by omega, by omega, HWR, HS2⟩
        case measure => simp [intOf]; omega
      · have hyl : ¬ y.toList = [] := by rw [empty_is HS.out]; exact fun e => hw (joinW_ne.1 e)
        have hyb2 : (y.toList == []) = false := by simpa using hyl
        have hyb : (y.toList == (⟨#[]⟩ : ByteArray).toList) = false := by rw [Go.Lib.toList_data (⟨#[]⟩ : ByteArray)]; exact hyb2
        obtain ⟨z, hz⟩ : ∃ z, z = y ++ (⟨#[32]⟩ : ByteArray) := ⟨_, rfl⟩
        have hzs : z.size = y.size + 1 := by rw [hz, ByteArray.size_append]; rfl
        have a1 := cat_is y ⟨#[32]⟩ z (by rw [← ByteArray.size_append, ← hz]; omega) hz
        obtain ⟨u, hu⟩ : ∃ u, u = z ++ T v := ⟨_, rfl⟩
        have hus : u.size = z.size + (T v).size := by rw [hu, ByteArray.size_append]
        have a2 := cat_is z (T v) u (by omega) hu
        have HS2 : Hid (u = ⟨(joinW (wordsS nl (l.take (k + 1)))).toArray⟩) := Lib.hid (by
          rw [hu, hz, HTK.out, wordsS_snoc, joinW_snoc, if_neg hw, HS.out, HTD.out]
          apply ByteArray.ext
          apply Array.ext'
          simp)
        clear hz hu hw
        go_wp2_with (go_at_call 9; refine (HTX.out _ _ HF.out).mono ?_; rintro e w8 ⟨rfl, rfl⟩)
        go_roundw
        case rel => exact ⟨k + 1, _, by go_num, rfl, by omega, by omega, HWR, HS2⟩
        case measure => simp [intOf]; omega
    · obtain rfl : k = len := by omega
      obtain ⟨z, hz⟩ : ∃ z : ByteArray, z = ⟨(lineS nl l).toArray⟩ := ⟨_, rfl⟩
      have hyz : z = y ++ (⟨#[10]⟩ : ByteArray) := by
        rw [hz, HS.out, ← HLL.out, List.take_length]
        unfold lineS
        rw [line_join]
        unfold wordsS
        apply ByteArray.ext
        simp
      have a1 := cat_is y ⟨#[10]⟩ z (by have e : (⟨#[10]⟩ : ByteArray).size = 1 := rfl; omega) hyz
      have HZ := Lib.hid hz
      clear hz hyz
      go_wp2_with fail
      go_ret
      exact ⟨by rw [← HZ.out]; rfl, HWR.out⟩
end Go.Proofs.YtnnddmojcaicbaaDoor
