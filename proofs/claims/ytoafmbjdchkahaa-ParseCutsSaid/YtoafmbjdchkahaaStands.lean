/- Package word: which bytes may stand; where the first of some is; a copy of a string. -/
import Derived.Test.YtoafmbjdchkahaaWRow
import Derived.Test.YtoafmbjdchkahaaShelf
import Derived.Test.YtoafmbjdchkahaaPlain
import Derived.WalkLawsBesides
import Derived.Lib.Hide
namespace Go.Proofs.Ytoafmbjdchkahaa
open Go.RowKit

/-! ### A text's places, at a string -/
section
variable (p : UInt8 → Bool) (s : ByteArray) (k : Nat) (h : k < s.size)
theorem aheadS_le (h : k ≤ s.size) : aheadN p s.data.toList k ≤ s.size := by have := aheadN_le p s.data.toList k (by simpa using h); simpa using this
theorem aheadS_on (hp : p s[k] = false) : aheadN p s.data.toList k = aheadN p s.data.toList (k + 1) := aheadN_on p s.data.toList k (by simpa using h) hp
theorem aheadS_at (hp : p s[k] = true) : aheadN p s.data.toList k = k := aheadN_at p s.data.toList k (by simpa using h) hp
theorem aheadS_end (h : k = s.size) : aheadN p s.data.toList k = k := aheadN_end p s.data.toList k (by simpa using h)
theorem aheadS_gt (hp : p s[k] = false) : k < aheadN p s.data.toList k := aheadN_gt p s.data.toList k (by simpa using h) hp
theorem cutS_blank (hb : blankB s[k] = true) : cutL (s.data.toList.drop k) k = cutL (s.data.toList.drop (k + 1)) (k + 1) := cut_blank s.data.toList k (by simpa using h) hb
theorem cutS_line (hb : s[k] = 35) : cutL (s.data.toList.drop k) k = cutL (s.data.toList.drop (aheadN lineB s.data.toList k)) (aheadN lineB s.data.toList k) := cut_line s.data.toList k (by simpa using h) hb
theorem cutS_word (hb : sepB s[k] = false) : cutL (s.data.toList.drop k) k = ((s.data.toList.drop k).take (aheadN sepB s.data.toList k - k), k) :: cutL (s.data.toList.drop (aheadN sepB s.data.toList k)) (aheadN sepB s.data.toList k) := cut_word s.data.toList k (by simpa using h) hb
theorem cutS_end (h : s.size ≤ k) : cutL (s.data.toList.drop k) k = [] := cut_end s.data.toList k (by simpa using h)
end
theorem byte_ne {b c : UInt8} (h : b ≠ c) : ((b.toNat : Int) == (c.toNat : Int)) = false := by
  simp
  intro g
  exact h (UInt8.toNat_inj.1 (by omega))

theorem stands_any (b : UInt8) (w : World) : Calls Try.prog 53 #[.int .u8 b.toNat] w fun e w' => e = .returned (.bool (standB b)) ∧ w = w' := by
  by_cases h1 : b = 10
  · subst h1
    go_enter Try.func53, Try.ntmps53
    go_wp2
    go_ret
    exact ⟨rfl, rfl⟩
  · have h2 : ((b.toNat : Int) == 10) = false := by
      simp
      intro h
      apply h1
      apply UInt8.toNat_inj.1
      simp; omega
    have h3 : (b == 10) = false := by simpa using h1
    have HS : Hid (standB b = (decide (32 ≤ b.toNat) && decide (b.toNat ≤ 126))) := Lib.hid (by unfold standB; rw [h3]; rfl)
    clear h1 h3
    by_cases h4 : 32 ≤ b.toNat
    · have h5 : decide (32 ≤ b.toNat) = true := decide_eq_true h4
      go_enter Try.func53, Try.ntmps53
      go_wp2
      go_ret
      refine ⟨?_, rfl⟩
      rw [HS.out]
      simp [h4]
      omega
    · have h5 : decide (32 ≤ b.toNat) = false := decide_eq_false h4
      go_enter Try.func53, Try.ntmps53
      go_wp2
      go_ret
      refine ⟨?_, rfl⟩
      rw [HS.out]
      simp [h4]

theorem clone_any (s : ByteArray) (w : World) (hlim : s.size ≤ 281474976710656) : Calls Try.prog 60 #[.string s] w fun e w' => e = .returned (.string s) ∧ Below w.heap.size w w' := by
  go_enter Try.func60, Try.ntmps60
  go_wp2_with (go_at_call 62; refine (Try.stringslite_Clone _ _ hlim).mono ?_; rintro e w' ⟨rfl, hb⟩)
  go_ret
  exact ⟨rfl, hb⟩

/-- Where from a place on the first of some bytes is. -/
theorem ahead_any (s : ByteArray) (k : Nat) (chars : ByteArray) (p : UInt8 → Bool) (w : World) (hs : s.size ≤ 1000000000) (hk : k ≤ s.size) (hc : chars.size ≤ 3)
    (ha : ∀ b ∈ s.data.toList, b.toNat < 128) (hac : ∀ b ∈ chars.data.toList, b.toNat < 128) (hp : ∀ b, chars.data.toList.contains b = p b) :
    Calls Try.prog 59 #[.string s, .int .i64 k, .string chars] w fun e w' => e = .returned (.int .i64 (aheadN p s.data.toList k : Nat)) ∧ Below w.heap.size w w' := by
  have hx : (s.extract k s.size).data.toList = s.data.toList.drop k := by
    rw [extract_str]
    rw [List.take_of_length_le (by simp)]
  have hxs : (s.extract k s.size).size = s.size - k := by simp
  have hI := Try.strings_IndexAny_laid (s.extract k s.size) chars w (by omega) (by omega) (fun j b hj => ha b (by rw [hx] at hj; exact List.mem_of_mem_drop (List.mem_of_getElem? hj))) (fun j b hj => hac b (List.mem_of_getElem? hj))
  rw [hx, indexAny_toN, toN_congr hp] at hI
  have hle := toN_le p (s.data.toList.drop k)
  have hlen : (s.data.toList.drop k).length = s.size - k := by simp
  have HA : Hid (aheadN p s.data.toList k = k + toN p (s.data.toList.drop k)) := Lib.hid rfl
  generalize toN p (s.data.toList.drop k) = q at *
  rw [hlen] at hI hle
  clear hx hlen ha hac hp
  by_cases hq : q < s.size - k
  · rw [if_pos hq] at hI
    have HI := Lib.hid hI; clear hI
    have HX := Lib.hid hxs; clear hxs
    have hq0 : ¬ (q : Int) < 0 := by omega
    go_enter Try.func59, Try.ntmps59
    go_wp2_with (go_at_call 61; refine HI.out.mono ?_; rintro e w' ⟨rfl, hb⟩)
    go_ret
    exact ⟨by rw [HA.out]; simp, hb⟩
  · rw [if_neg hq] at hI
    have HI := Lib.hid hI; clear hI
    have HX := Lib.hid hxs; clear hxs
    have HQ := Lib.hid (show q = s.size - k by omega)
    go_enter Try.func59, Try.ntmps59
    go_wp2_with (go_at_call 61; refine HI.out.mono ?_; rintro e w' ⟨rfl, hb⟩)
    go_ret
    exact ⟨by rw [HA.out]; exact ret_int (by have := HQ.out; omega), hb⟩
end Go.Proofs.Ytoafmbjdchkahaa
