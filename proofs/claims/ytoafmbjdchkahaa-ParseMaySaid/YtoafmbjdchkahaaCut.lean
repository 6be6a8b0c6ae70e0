/- Package word: cut, Split. -/
import Derived.Test.YtoafmbjdchkahaaStands
import Derived.Test.YtoafmbjdchkahaaPAppend
import Derived.OwnWalk
namespace Go.Proofs.Ytoafmbjdchkahaa
open Go.RowKit

/-- What cut keeps from round to round. -/
structure CutR (T : TypeId) (w : World) (s : List UInt8) (k : Nat) (v : Value) (acc : List W) (wr : World) : Prop where
  row : WRow T wr w.heap.size v acc
  below : Below w.heap.size w wr
  words : acc ++ cutL (s.drop k) k = cutL s 0
  len : acc.length ≤ k
variable {T : TypeId} {w wr w2 : World} {s : List UInt8} {k : Nat} {v : Value} {acc : List W}
theorem CutR.start (T : TypeId) (w : World) (s : List UInt8) : CutR T w s 0 (.slice none 0 0) [] w := ⟨WRow.nil _ _ _, Below.refl _ _, by simp, Nat.le_refl _⟩
theorem CutR.later (h : CutR T w s k v acc wr) (hb : Below wr.heap.size wr w2) : CutR T w s k v acc w2 :=
  ⟨h.row.below hb, h.below.trans (hb.mono h.below.size), h.words, h.len⟩
theorem CutR.go {k' : Nat} (h : CutR T w s k v acc wr) (hc : cutL (s.drop k) k = cutL (s.drop k') k') (hk : k ≤ k') : CutR T w s k' v acc wr :=
  ⟨h.row, h.below, by rw [← hc]; exact h.words, Nat.le_trans h.len hk⟩
theorem CutR.word {k' : Nat} {x : W} {v' : Value} (h : CutR T w s k v acc wr) (hc : cutL (s.drop k) k = x :: cutL (s.drop k') k') (hk : k < k')
    (hown : w2.ownsRow w.heap.size T 2 v' (acc.length + 1) (flatW acc ++ encW x)) (hg : wr.grownBy w2 v.ownBlock) : CutR T w s k' v' (acc ++ [x]) w2 :=
  ⟨WRow.snoc hown, ((Mod.of_below (fun k => w.heap.size ≤ k) h.below).grown hg (fun k hk => .inl (World.ownsRow.lt h.row k hk).1)).below (Nat.le_refl _) (fun _ h => h),
    by rw [← h.words, hc]; simp, by have := h.len; simp; omega⟩
theorem CutR.done (h : CutR T w s k v acc wr) (hk : s.length ≤ k) : WRow T wr w.heap.size v (cutL s 0) := by
  have := h.words
  rw [cut_end s k hk, List.append_nil] at this
  rw [← this]
  exact h.row
theorem CutR.cap (h : CutR T w s k v acc wr) : ∃ a cap, v = .slice a acc.length cap := h.row.shape

set_option maxHeartbeats 1000000 in
set_option maxRecDepth 100000 in
theorem cut_any (s : ByteArray) (w : World) (hs : s.size ≤ 131072) (hst : toN badB s.data.toList = s.size) :
    Calls Try.prog 54 #[.string s] w fun e w' => ∃ v, e = .returned v ∧ WRow 99 w' w.heap.size v (cutL s.data.toList 0) ∧ Below w.heap.size w w' := by
  obtain ⟨i0, hi, hz0, hz1, hz2⟩ := info_parts infoW
  have ha : ∀ b ∈ s.data.toList, b.toNat < 128 := fun b hb => by
    have := toN_all (p := badB) (l := s.data.toList) (by rw [hst]; simp) b hb
    simp [badB, standB] at this
    by_cases h10 : b = 10
    · subst h10
      decide
    · have := this h10
      omega
  have hsl : s.data.toList.length = s.size := by simp
  have HA := Lib.hid ha; clear ha
  have HSL := Lib.hid hsl; clear hsl
  clear hst
  have HC0 := Lib.hid (CutR.start 99 w s.data.toList)
  go_enter Try.func54, Try.ntmps54
  go_wp2
  go_loopw [3, 4] (fun l i wr => ∃ (k : Nat) (v : Value) (acc : List W), i = .int .i64 k ∧ v = l ∧ k ≤ s.size ∧ Hid (CutR 99 w s.data.toList k v acc wr)) (fun _ i _ => s.size - (intOf i).toNat)
  case atStart => exact ⟨0, _, [], rfl, rfl, Nat.zero_le _, HC0⟩
  case round =>
    obtain ⟨k, v, acc, rfl, rfl, hk, HC⟩ := hrel
    clear HC0
    by_cases hlt : k < s.size
    · by_cases hb : blankB s[k] = true
      · have HG := Lib.hid (HC.out.go (cutS_blank s k hlt hb) (Nat.le_succ k))
        clear HC
        by_cases h32 : s[k] = 32
        · have t1 : ((s[k].toNat : Int) == 32) = true := by rw [h32]; rfl
          clear h32 hb
          go_wp2
          go_roundw
          case rel => exact ⟨k + 1, _, acc, by go_num, rfl, by omega, HG⟩
          case measure => simp [intOf]; omega
        · have h10 : s[k] = 10 := by simpa [blankB, h32] using hb
          have t1 : ((s[k].toNat : Int) == 32) = false := by rw [h10]; rfl
          have t2 : ((s[k].toNat : Int) == 10) = true := by rw [h10]; rfl
          clear h32 h10 hb
          go_wp2
          go_roundw
          case rel => exact ⟨k + 1, _, acc, by go_num, rfl, by omega, HG⟩
          case measure => simp [intOf]; omega
      · have hb' : blankB s[k] = false := by simpa using hb
        have t1 : ((s[k].toNat : Int) == 32) = false := byte_ne (c := 32) (by
          simp [blankB] at hb'
          exact hb'.1)
        have t2 : ((s[k].toNat : Int) == 10) = false := byte_ne (c := 10) (by
          simp [blankB] at hb'
          exact hb'.2)
        clear hb
        by_cases h35 : s[k] = 35
        · have t3 : ((s[k].toNat : Int) == 35) = true := by rw [h35]; rfl
          have g1 := aheadS_gt lineB s k hlt (by rw [h35]; rfl)
          have g3 := aheadS_le lineB s k hk
          have HG := Lib.hid (HC.out.go (cutS_line s k hlt h35) (Nat.le_of_lt g1))
          have HAH := Lib.hid (ahead_any s k ⟨#[10]⟩ lineB wr (by omega) hk (by decide) HA.out (by decide) contains_line)
          clear HC h35 hb'
          generalize aheadN lineB s.data.toList k = q at *
          go_wp2_with (go_at_call 59; refine HAH.out.mono ?_; rintro e w2 ⟨rfl, hb2⟩; have HG2 := Lib.hid (HG.out.later hb2); clear hb2 HG)
          go_roundw
          case rel => exact ⟨q, _, acc, by go_num, rfl, g3, HG2⟩
          case measure => simp [intOf]; omega
        · have t3 : ((s[k].toNat : Int) == 35) = false := byte_ne (c := 35) h35
          have hsep : sepB s[k] = false := by
            simp [blankB] at hb'
            simp [sepB, hb', h35]
          have g1 := aheadS_gt sepB s k hlt hsep
          have g3 := aheadS_le sepB s k hk
          have HW := Lib.hid (cutS_word s k hlt hsep)
          have HAH := Lib.hid (ahead_any s k ⟨#[32, 10, 35]⟩ sepB wr (by omega) hk (by decide) HA.out (by decide) contains_sep)
          have hal : acc.length ≤ k := HC.out.len
          clear h35 hb' hsep
          generalize aheadN sepB s.data.toList k = q at *
          have HX := Lib.hid (extract_str s k q)
          have hxs : (s.extract k q).size ≤ 281474976710656 := by simp; omega
          have hkq : k ≤ q := by omega
          obtain ⟨va, vc, rfl⟩ := HC.out.cap
          go_wp2_with (first
            | (go_at_call 59; refine HAH.out.mono ?_; rintro e w2 ⟨rfl, hb2⟩; have HC2 := Lib.hid (HC.out.later hb2); clear hb2 HC)
            | (go_at_call 60; refine (clone_any _ _ hxs).mono ?_; rintro e w3 ⟨rfl, hb3⟩; have HC3 := Lib.hid ((HC2.out.later hb3).later ((Below.refl _ _).alloc (Nat.le_refl _) (.cells #[.string (s.extract k q), .int .i64 k] 99))); clear hb3 HC2; rw [HX.out] at HC3 ⊢; have HB3 := Lib.hid HC3.out.below.size)
            | (at_builtin; refine wpList_append_fresh rfl (.tmp 16) (.tmp 24) 90 rfl w.heap.size 99 i0 _ 2 24 Try.underlying90 hi hz0 hz1 hz2 (by decide) (.slice va acc.length vc) acc.length (flatW acc) rfl HC3.out.row ⟨w3.heap.size, 0, none⟩ 1 (encW ((s.data.toList.drop k).take (q - k), k)) rfl rfl (by intro j u hj; match j, hj with | 0, hj => simp [encW] at hj; subst hj; simp [Addr.add] | 1, hj => simp [encW] at hj; subst hj; simp [Addr.add]) (oneW _) (by unfold maxLen; omega) (by omega) HB3.out ?_; intro g cap' w4 hown hgrow hfr; have HC4 := Lib.hid (HC3.out.word HW.out g1 hown hgrow); clear hown hgrow hfr HC3 HB3))
          go_roundw
          case rel => exact ⟨q, _, _, by go_num, rfl, g3, HC4⟩
          case measure => simp [intOf]; omega
    · have hd := HC.out.done (by have := HSL.out; omega)
      have HD := Lib.hid hd; clear hd
      have HB := Lib.hid HC.out.below
      go_wp2
      go_ret
      exact ⟨_, rfl, HD.out, HB.out⟩
end Go.Proofs.Ytoafmbjdchkahaa
