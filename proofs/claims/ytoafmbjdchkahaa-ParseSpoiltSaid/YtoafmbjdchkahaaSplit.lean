/- Package word: Split. -/
import Derived.Test.YtoafmbjdchkahaaCut
namespace Go.Proofs.Ytoafmbjdchkahaa
open Go.RowKit

/-- What Split and the reference tell of a text: where the first byte is that may not stand. -/
theorem badS_yes {s : ByteArray} {k : Nat} (h : k < s.size) (hb : standB s[k] = false) : aheadN badB s.data.toList k = k := aheadS_at badB s k h (by simp [badB, hb])
theorem badS_no {s : ByteArray} {k : Nat} (h : k < s.size) (hb : standB s[k] = true) : aheadN badB s.data.toList k = aheadN badB s.data.toList (k + 1) := aheadS_on badB s k h (by simp [badB, hb])

theorem ret_bad {v c : Value} {k q : Nat} (h : k = q) : Ending.returned (.tuple #[v, .int .i64 (k : Int), c]) = .returned (.tuple #[v, .int .i64 (q : Int), c]) := by rw [h]

theorem split_big (s : ByteArray) (w : World) (hs : 131072 < s.size) (hm : s.size ≤ 9223372036854775807) :
    Calls Try.prog 42 #[.string s] w fun e w' => e = .returned (.tuple #[.slice none 0 0, .int .i64 0, .int .i64 4]) ∧ w = w' := by
  have h1 : (131072 : Int) < (s.size : Int) := by omega
  go_enter Try.func42, Try.ntmps42
  go_wp2
  go_ret3
  exact ⟨rfl, rfl⟩

theorem split_bad (s : ByteArray) (w : World) (hs : s.size ≤ 131072) (hb : toN badB s.data.toList < s.size) :
    Calls Try.prog 42 #[.string s] w fun e w' => e = .returned (.tuple #[.slice none 0 0, .int .i64 (toN badB s.data.toList : Nat), .int .i64 3]) ∧ w = w' := by
  have h1 : ¬ (131072 : Int) < (s.size : Int) := by omega
  have HZ := Lib.hid (aheadN_zero badB s.data.toList)
  generalize toN badB s.data.toList = q at *
  go_enter Try.func42, Try.ntmps42
  go_wp2
  go_loop [11] (fun i => ∃ k : Nat, i = .int .i64 k ∧ k ≤ s.size ∧ Hid (aheadN badB s.data.toList k = q)) (fun i => s.size - (intOf i).toNat)
  case atStart => exact ⟨0, rfl, Nat.zero_le _, HZ⟩
  case round =>
    obtain ⟨k, rfl, hk, HK⟩ := hrel
    clear HZ
    by_cases hlt : k < s.size
    · cases hst : standB s[k] with
      | true =>
        have HG := Lib.hid ((badS_no hlt hst).symm.trans HK.out)
        have HSt : Hid (∀ w, Calls Try.prog 53 #[.int .u8 s[k].toNat] w fun e w' => e = .returned (.bool true) ∧ w = w') := Lib.hid fun w => hst ▸ stands_any s[k] w
        clear hst HK
        go_wp2_with (go_at_call 53; refine (HSt.out _).mono ?_; rintro e w' ⟨rfl, rfl⟩)
        go_round
        case rel => exact ⟨k + 1, by go_num, by omega, HG⟩
        case measure => simp [intOf]; omega
      | false =>
        have HG := Lib.hid ((badS_yes hlt hst).symm.trans HK.out)
        have HSt : Hid (∀ w, Calls Try.prog 53 #[.int .u8 s[k].toNat] w fun e w' => e = .returned (.bool false) ∧ w = w') := Lib.hid fun w => hst ▸ stands_any s[k] w
        clear hst HK
        go_wp2_with (go_at_call 53; refine (HSt.out _).mono ?_; rintro e w' ⟨rfl, rfl⟩)
        go_ret3
        exact ⟨ret_bad HG.out, rfl⟩
    · exfalso
      have h2 := aheadS_end badB s k (by omega)
      have := HK.out
      omega

theorem split_good (s : ByteArray) (w : World) (hs : s.size ≤ 131072) (hb : toN badB s.data.toList = s.size) :
    Calls Try.prog 42 #[.string s] w fun e w' => ∃ v, e = .returned (.tuple #[v, .int .i64 0, .int .i64 0]) ∧ WRow 99 w' w.heap.size v (cutL s.data.toList 0) ∧ Below w.heap.size w w' := by
  have h1 : ¬ (131072 : Int) < (s.size : Int) := by omega
  have HCut := Lib.hid (cut_any s w hs hb)
  have hz := aheadN_zero badB s.data.toList
  rw [hb] at hz
  have HZ := Lib.hid hz
  clear hb hz
  go_enter Try.func42, Try.ntmps42
  go_wp2
  go_loop [11] (fun i => ∃ k : Nat, i = .int .i64 k ∧ k ≤ s.size ∧ Hid (aheadN badB s.data.toList k = s.size)) (fun i => s.size - (intOf i).toNat)
  case atStart => exact ⟨0, rfl, Nat.zero_le _, HZ⟩
  case round =>
    obtain ⟨k, rfl, hk, HK⟩ := hrel
    clear HZ
    by_cases hlt : k < s.size
    · have hst : standB s[k] = true := by
        cases h : standB s[k] with
        | true => rfl
        | false => have := (badS_yes hlt h).symm.trans HK.out; omega
      have HG := Lib.hid ((badS_no hlt hst).symm.trans HK.out)
      have HSt : Hid (∀ w, Calls Try.prog 53 #[.int .u8 s[k].toNat] w fun e w' => e = .returned (.bool true) ∧ w = w') := Lib.hid fun w => hst ▸ stands_any s[k] w
      clear hst HK
      go_wp2_with (go_at_call 53; refine (HSt.out _).mono ?_; rintro e w' ⟨rfl, rfl⟩)
      go_round
      case rel => exact ⟨k + 1, by go_num, by omega, HG⟩
      case measure => simp [intOf]; omega
    · go_wp2_with (go_at_call 54; refine HCut.out.mono ?_; rintro e w' ⟨v, rfl, hr, hb⟩; have HR := Lib.hid hr; have HB := Lib.hid hb; clear hr hb)
      go_ret3
      exact ⟨_, rfl, HR.out, HB.out⟩
end Go.Proofs.Ytoafmbjdchkahaa
