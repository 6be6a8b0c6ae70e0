/- The reference's words of a text. -/
import Derived.Test.YtoafmbjdchkahaaSplit
namespace Go.Proofs.Ytoafmbjdchkahaa
open Go.RowKit

theorem byte_neq {b c : UInt8} (h : b ≠ c) : ((b.toNat : Int) != (c.toNat : Int)) = true := by
  unfold bne
  rw [byte_ne h]
  rfl
theorem stand_cases {b : UInt8} (h : standB b = true) : b = 10 ∨ (b ≠ 10 ∧ ¬ (b.toNat : Int) < 32 ∧ ¬ (126 : Int) < (b.toNat : Int)) := by
  by_cases h10 : b = 10
  · exact .inl h10
  · simp [standB, h10] at h
    exact .inr ⟨h10, by omega, by omega⟩
theorem bad_cases {b : UInt8} (h : standB b = false) : b ≠ 10 ∧ ((b.toNat : Int) < 32 ∨ (¬ (b.toNat : Int) < 32 ∧ (126 : Int) < (b.toNat : Int))) := by
  simp [standB] at h
  refine ⟨h.1, ?_⟩
  by_cases h32 : (b.toNat : Int) < 32
  · exact .inl h32
  · have := h.2 (by omega)
    exact .inr ⟨h32, by omega⟩

set_option maxHeartbeats 1000000 in
set_option maxRecDepth 100000 in
theorem words_bad (s : ByteArray) (w : World) (hs : s.size ≤ 131072) (hb : toN badB s.data.toList < s.size) :
    Calls Try.prog 12 #[.string s] w fun e w' => e = .returned (.tuple #[.slice none 0 0, .int .i64 (toN badB s.data.toList : Nat)]) ∧ w = w' := by
  have HZ := Lib.hid (aheadN_zero badB s.data.toList)
  generalize toN badB s.data.toList = q at *
  go_enter Try.func12, Try.ntmps12
  go_wp2
  go_loop [5] (fun i => ∃ k : Nat, i = .int .i64 k ∧ k ≤ s.size ∧ Hid (aheadN badB s.data.toList k = q)) (fun i => s.size - (intOf i).toNat)
  case atStart => exact ⟨0, rfl, Nat.zero_le _, HZ⟩
  case round =>
    obtain ⟨k, rfl, hk, HK⟩ := hrel
    clear HZ
    by_cases hlt : k < s.size
    · cases hst : standB s[k] with
      | true =>
        have HG := Lib.hid ((badS_no hlt hst).symm.trans HK.out)
        clear HK
        rcases stand_cases hst with h10 | ⟨h10, h32, h126⟩
        · have t1 : ((s[k].toNat : Int) != 10) = false := by rw [h10]; rfl
          clear hst h10
          go_wp2
          go_round
          case rel => exact ⟨k + 1, by go_num, by omega, HG⟩
          case measure => simp [intOf]; omega
        · have t1 : ((s[k].toNat : Int) != 10) = true := byte_neq (c := 10) h10
          clear hst h10
          go_wp2
          go_round
          case rel => exact ⟨k + 1, by go_num, by omega, HG⟩
          case measure => simp [intOf]; omega
      | false =>
        have HG := Lib.hid ((badS_yes hlt hst).symm.trans HK.out)
        clear HK
        obtain ⟨h10, h⟩ := bad_cases hst
        have t1 : ((s[k].toNat : Int) != 10) = true := byte_neq (c := 10) h10
        clear hst h10
        rcases h with h32 | ⟨h32, h126⟩
        · go_wp2
          go_ret2
          exact ⟨by have := HG.out; clear t1 h32 HG; subst this; rfl, rfl⟩
        · go_wp2
          go_ret2
          exact ⟨by have := HG.out; clear t1 h32 h126 HG; subst this; rfl, rfl⟩
    · exfalso
      have h2 := aheadS_end badB s k (by omega)
      have := HK.out
      omega

set_option maxHeartbeats 2000000 in
set_option maxRecDepth 100000 in
theorem words_good (s : ByteArray) (w : World) (hs : s.size ≤ 131072) (hb : toN badB s.data.toList = s.size) :
    Calls Try.prog 12 #[.string s] w fun e w' => ∃ v, e = .returned (.tuple #[v, .int .i64 (-1)]) ∧ WRow 47 w' w.heap.size v (cutL s.data.toList 0) ∧ Below w.heap.size w w' := by
  obtain ⟨i0, hi, hz0, hz1, hz2⟩ := info_parts infoRW
  have hz := aheadN_zero badB s.data.toList
  rw [hb] at hz
  have HZ := Lib.hid hz
  clear hb hz
  have HC0 := Lib.hid (CutR.start 47 w s.data.toList)
  go_enter Try.func12, Try.ntmps12
  go_wp2
  go_loop [5] (fun i => ∃ k : Nat, i = .int .i64 k ∧ k ≤ s.size ∧ Hid (aheadN badB s.data.toList k = s.size)) (fun i => s.size - (intOf i).toNat)
  case atStart => exact ⟨0, rfl, Nat.zero_le _, HZ⟩
  case round =>
    obtain ⟨k, rfl, hk, HK⟩ := hrel
    clear HZ
    by_cases hlt : k < s.size
    · have hst : standB s[k] = true := by
        cases h : standB s[k] with
        | true => rfl
        | false => have := (badS_yes hlt h).symm.trans HK.out; omega
      have HG := Lib.hid ((badS_no hlt hst).symm.trans HK.out)
      clear HK
      rcases stand_cases hst with h10 | ⟨h10, h32, h126⟩
      · have t1 : ((s[k].toNat : Int) != 10) = false := by rw [h10]; rfl
        clear hst h10
        go_wp2
        go_round
        case rel => exact ⟨k + 1, by go_num, by omega, HG⟩
        case measure => simp [intOf]; omega
      · have t1 : ((s[k].toNat : Int) != 10) = true := byte_neq (c := 10) h10
        clear hst h10
        go_wp2
        go_round
        case rel => exact ⟨k + 1, by go_num, by omega, HG⟩
        case measure => simp [intOf]; omega
    · clear HK
      go_wp2
      go_loopw [4, 6] (fun l i wr => ∃ (j : Nat) (v : Value) (acc : List W), i = .int .i64 j ∧ v = l ∧ j ≤ s.size ∧ Hid (CutR 47 w s.data.toList j v acc wr)) (fun _ i _ => s.size - (intOf i).toNat)
      case atStart => exact ⟨0, _, [], rfl, rfl, Nat.zero_le _, HC0⟩
      case round =>
        obtain ⟨j, v, acc, rfl, rfl, hj, HC⟩ := hrel
        clear HC0
        by_cases hjl : j < s.size
        · by_cases h35 : s[j] = 35
          · have t3 : ((s[j].toNat : Int) == 35) = true := by rw [h35]; rfl
            have g1 := aheadS_gt lineB s j hjl (by rw [h35]; rfl)
            have g3 := aheadS_le lineB s j hj
            have HG := Lib.hid (HC.out.go (cutS_line s j hjl h35) (Nat.le_of_lt g1))
            clear HC h35
            have HQ : Hid (aheadN lineB s.data.toList j = aheadN lineB s.data.toList j) := Lib.hid rfl
            generalize hq : aheadN lineB s.data.toList j = q at HG g1 g3 HQ
            clear HQ
            have HQ := Lib.hid hq
            clear hq
            go_wp2
            go_loop [6] (fun i => ∃ m : Nat, i = .int .i64 m ∧ j ≤ m ∧ m ≤ s.size ∧ Hid (aheadN lineB s.data.toList m = q)) (fun i => s.size - (intOf i).toNat)
            case atStart => exact ⟨j, rfl, Nat.le_refl _, hj, HQ⟩
            case round =>
              obtain ⟨m, rfl, hjm, hm, HM⟩ := hrel
              by_cases hml : m < s.size
              · by_cases h10 : s[m] = 10
                · have t1 : ((s[m].toNat : Int) != 10) = false := by rw [h10]; rfl
                  have hmq : m = q := (aheadS_at lineB s m hml (by rw [h10]; rfl)).symm.trans HM.out
                  subst hmq
                  clear h10 HM HQ
                  go_wp2
                  go_roundw
                  case rel => exact ⟨m, _, acc, rfl, rfl, g3, HG⟩
                  case measure => simp [intOf]; omega
                · have t1 : ((s[m].toNat : Int) != 10) = true := byte_neq (c := 10) h10
                  have HM' := Lib.hid ((aheadS_on lineB s m hml (by simpa [lineB] using h10)).symm.trans HM.out)
                  clear h10 HM
                  go_wp2
                  go_round
                  case rel => exact ⟨m + 1, by go_num, by omega, by omega, HM'⟩
                  case measure => simp [intOf]; omega
              · have hmq : m = q := (aheadS_end lineB s m (by omega)).symm.trans HM.out
                subst hmq
                clear HM HQ
                go_wp2
                go_roundw
                case rel => exact ⟨m, _, acc, rfl, rfl, g3, HG⟩
                case measure => simp [intOf]; omega
          · have t3 : ((s[j].toNat : Int) == 35) = false := byte_ne (c := 35) h35
            by_cases hb : blankB s[j] = true
            · have HG := Lib.hid (HC.out.go (cutS_blank s j hjl hb) (Nat.le_succ j))
              clear HC h35
              by_cases h32 : s[j] = 32
              · have t1 : ((s[j].toNat : Int) == 32) = true := by rw [h32]; rfl
                clear h32 hb
                go_wp2
                go_roundw
                case rel => exact ⟨j + 1, _, acc, by go_num, rfl, by omega, HG⟩
                case measure => simp [intOf]; omega
              · have h10 : s[j] = 10 := by simpa [blankB, h32] using hb
                have t1 : ((s[j].toNat : Int) == 32) = false := by rw [h10]; rfl
                have t2 : ((s[j].toNat : Int) == 10) = true := by rw [h10]; rfl
                clear h32 h10 hb
                go_wp2
                go_roundw
                case rel => exact ⟨j + 1, _, acc, by go_num, rfl, by omega, HG⟩
                case measure => simp [intOf]; omega
            · have hb' : blankB s[j] = false := by simpa using hb
              have t1 : ((s[j].toNat : Int) == 32) = false := byte_ne (c := 32) (by
                simp [blankB] at hb'
                exact hb'.1)
              have t2 : ((s[j].toNat : Int) == 10) = false := byte_ne (c := 10) (by
                simp [blankB] at hb'
                exact hb'.2)
              have hsep : sepB s[j] = false := by
                simp [blankB] at hb'
                simp [sepB, hb', h35]
              have g1 := aheadS_gt sepB s j hjl hsep
              have g3 := aheadS_le sepB s j hj
              have HW := Lib.hid (cutS_word s j hjl hsep)
              have hal : acc.length ≤ j := HC.out.len
              clear h35 hb' hsep hb
              generalize hq : aheadN sepB s.data.toList j = q at HW g1 g3
              have HQ := Lib.hid hq
              clear hq
              obtain ⟨va, vc, rfl⟩ := HC.out.cap
              go_wp2
              go_loop [6] (fun i => ∃ m : Nat, i = .int .i64 m ∧ j ≤ m ∧ m ≤ s.size ∧ Hid (aheadN sepB s.data.toList m = q)) (fun i => s.size - (intOf i).toNat)
              case atStart => exact ⟨j, rfl, Nat.le_refl _, hj, HQ⟩
              case round =>
                obtain ⟨m, rfl, hjm, hm, HM⟩ := hrel
                have HX := Lib.hid (extract_str s j q)
                have HC3 := Lib.hid (HC.out.later ((Below.refl _ _).alloc (Nat.le_refl _) (.cells #[.string (s.extract j q), .int .i64 j] 47)))
                rw [HX.out] at HC3
                have HB3 := Lib.hid HC3.out.below.size
                by_cases hml : m < s.size
                · cases hsp : sepB s[m] with
                  | false =>
                    have n1 : s[m] ≠ 32 ∧ s[m] ≠ 10 ∧ s[m] ≠ 35 := by simp [sepB] at hsp; exact ⟨hsp.1.1, hsp.1.2, hsp.2⟩
                    have t4 : ((s[m].toNat : Int) != 32) = true := byte_neq (c := 32) n1.1
                    have t5 : ((s[m].toNat : Int) != 10) = true := byte_neq (c := 10) n1.2.1
                    have t6 : ((s[m].toNat : Int) != 35) = true := byte_neq (c := 35) n1.2.2
                    have HM' := Lib.hid ((aheadS_on sepB s m hml hsp).symm.trans HM.out)
                    clear n1 HM hsp HC3 HB3
                    go_wp2
                    go_round
                    case rel => exact ⟨m + 1, by go_num, by omega, by omega, HM'⟩
                    case measure => simp [intOf]; omega
                  | true =>
                    have hmq : m = q := (aheadS_at sepB s m hml hsp).symm.trans HM.out
                    have hw : (((s[m].toNat : Int) != 32) = false) ∨ (((s[m].toNat : Int) != 32) = true ∧ ((s[m].toNat : Int) != 10) = false) ∨ (((s[m].toNat : Int) != 32) = true ∧ ((s[m].toNat : Int) != 10) = true ∧ ((s[m].toNat : Int) != 35) = false) := by
                      simp [sepB] at hsp
                      by_cases c1 : s[m] = 32
                      · exact .inl (by rw [c1]; rfl)
                      · by_cases c2 : s[m] = 10
                        · exact .inr (.inl ⟨by rw [c2]; rfl, by rw [c2]; rfl⟩)
                        · have c3 : s[m] = 35 := by simpa [c1, c2] using hsp
                          exact .inr (.inr ⟨by rw [c3]; rfl, by rw [c3]; rfl, by rw [c3]; rfl⟩)
                    subst hmq
                    clear hsp HM HQ HC
                    rcases hw with t4 | ⟨t4, t5⟩ | ⟨t4, t5, t6⟩
                    all_goals
                      go_wp2_with (at_builtin; rw [HX.out]; refine wpList_append_fresh rfl (.tmp 60) (.tmp 67) 41 rfl w.heap.size 47 i0 _ 2 24 Try.underlying41 hi hz0 hz1 hz2 (by decide) (.slice va acc.length vc) acc.length (flatW acc) rfl HC3.out.row ⟨wr.heap.size, 0, none⟩ 1 (encW ((s.data.toList.drop j).take (m - j), j)) rfl rfl (by intro j u hj; match j, hj with | 0, hj => simp [encW] at hj; subst hj; simp [Addr.add] | 1, hj => simp [encW] at hj; subst hj; simp [Addr.add]) (oneW _) (by unfold maxLen; omega) (by omega) HB3.out ?_; intro g cap' w4 hown hgrow hfr; have HC4 := Lib.hid (HC3.out.word HW.out g1 hown hgrow); clear hown hgrow hfr HC3 HB3)
                      go_roundw
                      case rel => exact ⟨m, _, _, by go_num, rfl, g3, HC4⟩
                      case measure => simp [intOf]; omega
                · have hmq : m = q := (aheadS_end sepB s m (by omega)).symm.trans HM.out
                  subst hmq
                  clear HM HQ HC
                  go_wp2_with (at_builtin; rw [HX.out]; refine wpList_append_fresh rfl (.tmp 60) (.tmp 67) 41 rfl w.heap.size 47 i0 _ 2 24 Try.underlying41 hi hz0 hz1 hz2 (by decide) (.slice va acc.length vc) acc.length (flatW acc) rfl HC3.out.row ⟨wr.heap.size, 0, none⟩ 1 (encW ((s.data.toList.drop j).take (m - j), j)) rfl rfl (by intro j u hj; match j, hj with | 0, hj => simp [encW] at hj; subst hj; simp [Addr.add] | 1, hj => simp [encW] at hj; subst hj; simp [Addr.add]) (oneW _) (by unfold maxLen; omega) (by omega) HB3.out ?_; intro g cap' w4 hown hgrow hfr; have HC4 := Lib.hid (HC3.out.word HW.out g1 hown hgrow); clear hown hgrow hfr HC3 HB3)
                  go_roundw
                  case rel => exact ⟨m, _, _, by go_num, rfl, g3, HC4⟩
                  case measure => simp [intOf]; omega
        · have hd := HC.out.done (by simp; omega)
          have HD := Lib.hid hd; clear hd
          have HB := Lib.hid HC.out.below
          go_wp2
          go_ret2
          exact ⟨_, rfl, HD.out, HB.out⟩
end Go.Proofs.Ytoafmbjdchkahaa
