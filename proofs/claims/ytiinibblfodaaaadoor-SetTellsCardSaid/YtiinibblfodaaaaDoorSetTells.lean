/- The walk of the law on what a set tells. -/
import Derived.Test.YtiinibblfodaaaaDoorAll
import Derived.Test.YtiinibblfodaaaaDoorSetBack
import Derived.Test.YtiinibblfodaaaaDoorList
import Derived.Test.YtiinibblfodaaaaDoorShelf
import Derived.Outline
namespace Go.Proofs.YtiinibblfodaaaaDoor
open Go.RowKit

def upTo (s k : Nat) : List Nat := (List.range k).filter s.testBit
theorem upTo_all (s : Nat) : upTo s 64 = allN s := rfl
theorem upTo_yes (s k : Nat) (h : s.testBit k = true) : upTo s k ++ [k] = upTo s (k + 1) := by
  unfold upTo
  rw [List.range_succ, List.filter_append]
  simp [h]
theorem upTo_no (s k : Nat) (h : s.testBit k = false) : upTo s k = upTo s (k + 1) := by
  unfold upTo
  rw [List.range_succ, List.filter_append]
  simp [h]
theorem upTo_len (s k : Nat) : (upTo s k).length ≤ k := by
  have := List.length_filter_le s.testBit (List.range k)
  simpa [upTo] using this
theorem bool_infoT : (Tryd.prog.info? 4).map (fun i => i.size) = some 1 := by kernel_rfl
theorem index_bools (f : Nat → Bool) (k : Nat) (hk : k < 64) (W : World) : (Instr.index 26 (.agg (cellsB f)) (.int .i64 (k : Int))).run Tryd.prog W = .ok (.bool (f k)) W := by
  have hsz : ∀ w, (sizeOf 4).run Tryd.prog w = .ok 1 w := fun w => by
    have h := bool_infoT
    cases hq : Tryd.prog.info? 4 with
    | none => simp [hq] at h
    | some i => simp [hq] at h; simp [sizeOf, typeInfo, hq, h]
  have hg := cellsB_get f k hk
  have h2 : (0 : Int) ≤ (k : Int) ∧ (k : Int) < ((64 : Nat) : Int) := by omega
  simp [Instr.index, asIntOf, run_underlying Tryd.underlying26, hsz, part, isAgg, run_underlying Tryd.underlying4, hg]
  omega

theorem setTells_walk (s : Nat) (hs : s < 18446744073709551616) (w : World) (ht : TabD w) : Calls Tryd.prog 3 #[.int .u64 (s : Nat)] w (HoldsB w) := by
  obtain ⟨i0, hi, hz0, hz1, hz2⟩ := info_parts intInfo
  have HI := Lib.hid hi; clear hi
  have HZ0 := Lib.hid hz0; clear hz0
  have HZ1 := Lib.hid hz1; clear hz1
  have HZ2 := Lib.hid hz2; clear hz2
  have HS := Lib.hid hs; clear hs
  have HT := Lib.hid ht; clear ht
  go_enter Tryd.func3, Tryd.ntmps3
  go_wp2_with fail
  refine (awake _).mono ?_
  rintro e w1 ⟨rfl, hb1⟩
  have HB1 := Lib.hid hb1; clear hb1
  go_wp2_with fail
  refine (list_any s _).mono ?_
  rintro e w2 ⟨rfl, hb2⟩
  have HB2 : Hid (Below w.heap.size w w2) := Lib.hid (HB1.out.trans (hb2.mono HB1.out.size)); clear hb2
  go_wp2_with fail
  go_loopw [4, 13] (fun v i wr => ∃ k : Nat, k ≤ 64 ∧ i = .int .i64 k ∧ OwnL w wr (upTo s k) v) (fun _ i _ => 64 - (intOf i).toNat)
  case atStart => exact ⟨0, Nat.zero_le _, rfl, World.ownsRow_nil _ _ _ _, HB2.out⟩
  case round =>
    obtain ⟨k, hk, rfl, O⟩ := hrel
    have HO := Lib.hid O; clear O
    by_cases hlt : k < 64
    · have hidx := index_bools s.testBit k hlt
      cases hb : s.testBit k with
      | true =>
        have hn := Lib.hid (upTo_yes s k hb)
        have hll := Lib.hid (upTo_len s k)
        rw [hb] at hidx
        clear hb
        go_wp2_with (at_builtin; refine wpList_append_own _ rfl _ _ 25 rfl w.heap.size 3 i0 (.int .i64 0) 1 8 Tryd.underlying25 HI.out HZ0.out HZ1.out HZ2.out rfl (by decide) _ _ _ rfl (HO.out.own.alloc _) ⟨wr.heap.size, 0, none⟩ 1 1 [.int .i64 (k : Nat)] rfl rfl ?c1 ?c2 ?c3 ?c4 ?c5 ?_)
        case c1 =>
          intro j u hj
          match j, hj with
          | 0, hj => simp at hj; subst hj; simp [Addr.add]
        case c2 => intro u hu; simp at hu; subst hu; rfl
        case c3 => have := hll.out; unfold maxLen; omega
        case c4 => have := hll.out; omega
        case c5 => exact Nat.le_trans HO.out.below.size (by simp)
        intro v' w3 hown' hgrow _
        have O2 := Lib.hid (own_next HO.out hown' hgrow)
        clear hown' hgrow
        go_wp2_with fail
        go_roundw
        case rel => exact ⟨k + 1, by omega, by go_num, by rw [← hn.out]; exact O2.out⟩
        case measure => simp [intOf]; omega
      | false =>
        have hn := Lib.hid (upTo_no s k hb)
        rw [hb] at hidx
        clear hb
        go_wp2_with fail
        go_roundw
        case rel => exact ⟨k + 1, by omega, by go_num, by rw [← hn.out]; exact HO.out⟩
        case measure => simp [intOf]; omega
    · obtain rfl : k = 64 := by omega
      rw [upTo_all] at HO
      obtain ⟨a, cap, rfl, R⟩ := own_row HO.out
      have HR := Lib.hid R; clear R
      have HT2 := Lib.hid (tabD_below HT.out HO.out.below)
      by_cases h0 : s = 0
      · subst h0
        rw [allN_zero] at HO
        rw [allN_zero]
        clear HR
        simp only [List.length_nil]
        have hz0 : Hid ((allN 0).length = 0) := Lib.hid (by rw [allN_zero]; rfl)
        go_wp2_with fail
        refine (len_any 0 HS.out _).mono ?_
        rw [hz0.out]
        rintro e w' ⟨rfl, rfl⟩
        go_wp2_with fail
        refine (first_zero _).mono ?_
        rintro e w' ⟨rfl, rfl⟩
        go_wp2_with fail
        refine (all_any 0 HS.out _ HT2.out).mono ?_
        rintro e w4 ⟨v4, rfl, O4⟩
        obtain ⟨a4, cap4, rfl, R4⟩ := own_row O4
        have HB4 := Lib.hid O4.below
        clear R4 O4
        rw [hz0.out]
        go_wp2_with fail
        refine (Tryd.slices_Equal_int_empty _ _ _ _ _ _ (by omega)).mono ?_
        rintro e w' ⟨rfl, rfl⟩
        go_wp2_with fail
        go_ret
        exact ⟨by simp, HO.out.below.trans (HB4.out.mono HO.out.below.size)⟩
      · have hn := allN_next s h0 HS.out
        obtain ⟨l, hl⟩ : ∃ l, l = allN s := ⟨_, rfl⟩
        have hll := allN_len s
        rw [← hl] at HO HR hn hll ⊢
        have HLEN := Lib.hid hl; clear hl
        have hpos : 0 < l.length := by rw [hn]; simp
        have hfirst : Hid (l.getD 0 0 = Lib.ctz 64 s) := Lib.hid (by rw [hn]; rfl)
        have H0 := Lib.hid h0
        clear hn h0
        have hrow : ∃ b off, a = some ⟨b, off, none⟩ ∧ ∀ j, j < l.length → wr.cell? ⟨b, off + j, none⟩ = some (.int .i64 ((l.map fun n : Nat => (n : Int)).getD j 0)) := by
          rcases HR.out with h | ⟨b, off, h1, h2⟩
          · rw [List.length_map] at h; omega
          · exact ⟨b, off, h1, fun j hj => h2 j (by simpa using hj)⟩
        obtain ⟨b, off, rfl, hc⟩ := hrow
        have hc0 : wr.cell? ⟨b, off, none⟩ = some (.int .i64 (Lib.ctz 64 s : Nat)) := by
          have h := hc 0 hpos
          rw [Nat.add_zero] at h
          rw [h, ← hfirst.out]
          simp [List.getD_eq_getElem?_getD, hpos]
        have HC := Lib.hid hc; clear hc
        go_wp2_with fail
        refine (len_any s HS.out _).mono ?_
        rw [← HLEN.out]
        rintro e w' ⟨rfl, rfl⟩
        go_wp2_with fail
        refine (first_some s HS.out H0.out _ HT2.out).mono ?_
        rintro e w' ⟨rfl, rfl⟩
        go_wp2_with fail
        refine (all_any s HS.out _ HT2.out).mono ?_
        rintro e w4 ⟨v4, rfl, O4⟩
        rw [← HLEN.out] at O4
        obtain ⟨a4, cap4, rfl, R4⟩ := own_row O4
        have hrow4 : ∃ b4 off4, a4 = some ⟨b4, off4, none⟩ ∧ ∀ j, j < (l.map fun n : Nat => (n : Int)).length → w4.cell? ⟨b4, off4 + j, none⟩ = some (.int .i64 ((l.map fun n : Nat => (n : Int)).getD j 0)) := by
          rcases R4 with h | ⟨b4, off4, h1, h2⟩
          · simp at h; subst h; simp at hpos
          · exact ⟨b4, off4, h1, h2⟩
        obtain ⟨b4, off4, rfl, hc4⟩ := hrow4
        have HC4 := Lib.hid hc4
        have HB4 := Lib.hid O4.below
        have HCW : Hid (∀ j, j < (l.map fun n : Nat => (n : Int)).length → w4.cell? ⟨b, off + j, none⟩ = some (.int .i64 ((l.map fun n : Nat => (n : Int)).getD j 0))) := Lib.hid (fun j hj => by
          have hb2 : b < wr.heap.size := World.block_lt_of_cell? wr _ hc0
          rw [HB4.out.cell (p := ⟨b, off + j, none⟩) hb2]
          exact HC.out j (by simpa using hj))
        clear hc4 R4 O4 hc0
        go_wp2_with fail
        refine (Tryd.slices_Equal_int b4 off4 _ _ b off _ _ (l.map fun n : Nat => (n : Int)) (l.map fun n : Nat => (n : Int)) _ (by simp) (by simp) (by omega) (by omega) HC4.out HCW.out).mono ?_
        rintro e w' ⟨rfl, q, rfl⟩
        go_wp2_with fail
        go_ret
        exact ⟨by simp, below_drewN (HO.out.below.trans (HB4.out.mono HO.out.below.size)) q⟩
end Go.Proofs.YtiinibblfodaaaaDoor
