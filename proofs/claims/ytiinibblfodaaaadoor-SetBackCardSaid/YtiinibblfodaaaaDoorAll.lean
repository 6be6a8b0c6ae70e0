/- What Len, First and All of package set answer. -/
import Derived.Test.YtiinibblfodaaaaDoorSet
import Derived.Test.YtiinibblfodaaaaDoorBitsCalls
import Derived.Below
import Derived.ProofKit
import Derived.OpenShut
import Derived.OwnWalk
import Derived.Laws.AppendOwn
import Derived.Laws.OwnMore
import Derived.Laws.MakeOwn
namespace Go.Proofs.YtiinibblfodaaaaDoor
open Go.RowKit

theorem len_any (s : Nat) (hs : s < 18446744073709551616) (w : World) : Calls Tryd.prog 7 #[.int .u64 (s : Nat)] w fun e w' => e = .returned (.int .i64 ((allN s).length : Nat)) ∧ w = w' := by
  have HS := Lib.hid hs; clear hs
  go_enter Tryd.func7, Tryd.ntmps7
  go_wp2_with (go_at_call 15; refine (ones_any _ HS.out _).mono ?_; rintro e w' ⟨rfl, rfl⟩)
  go_ret
  exact ⟨rfl, rfl⟩
theorem first_zero (w : World) : Calls Tryd.prog 8 #[.int .u64 0] w fun e w' => e = .returned (.int .i64 (-1)) ∧ w = w' := by
  go_enter Tryd.func8, Tryd.ntmps8
  go_wp2
  go_ret
  exact ⟨rfl, rfl⟩
theorem first_some (s : Nat) (hs : s < 18446744073709551616) (h0 : s ≠ 0) (w : World) (ht : TabD w) : Calls Tryd.prog 8 #[.int .u64 (s : Nat)] w fun e w' => e = .returned (.int .i64 (Lib.ctz 64 s : Nat)) ∧ w = w' := by
  have HS := Lib.hid hs; clear hs
  have HT := Lib.hid ht; clear ht
  have H0 := Lib.hid h0
  have hz : ((s : Int) == 0) = false := by simp; exact h0
  clear h0
  go_enter Tryd.func8, Tryd.ntmps8
  go_wp2_with (go_at_call 16; refine (tz_any _ HS.out H0.out _ HT.out).mono ?_; rintro e w' ⟨rfl, rfl⟩)
  go_ret
  exact ⟨rfl, rfl⟩

theorem intInfo : (Tryd.prog.info? 3).map (fun i => (i.zero, i.size, i.bytes)) = some (some (.int .i64 0), 1, 8) := by kernel_rfl
/-- Cells of some numbers. -/
def numsV (l : List Nat) : List Value := l.map fun n : Nat => Value.int .i64 (n : Int)
theorem numsV_snoc (l : List Nat) (n : Nat) : numsV l ++ [.int .i64 (n : Int)] = numsV (l ++ [n]) := by simp [numsV]
/-- The value is a slice of the call's own, of these numbers. -/
structure OwnL (w wr : World) (l : List Nat) (v : Value) : Prop where
  own : wr.ownsRow w.heap.size 3 1 v l.length (numsV l)
  below : Below w.heap.size w wr
def AllPost (s : Nat) (w : World) (e : Ending) (w' : World) : Prop := ∃ v, e = .returned v ∧ OwnL w w' (allN s) v
theorem own_next {w wr w1 : World} {l : List Nat} {n : Nat} {v v' : Value} {o : Obj} (h : OwnL w wr l v) (h1 : w1.ownsRow w.heap.size 3 1 v' (l.length + 1) (numsV l ++ [.int .i64 (n : Int)])) (h2 : (wr.alloc o).grownBy w1 v.ownBlock) : OwnL w w1 (l ++ [n]) v' := by
  refine ⟨by rw [numsV_snoc] at h1; simpa using h1, ?_⟩
  exact (h.below.alloc h.below.size o).grown h2 (by simp; have := h.below.size; omega) fun g hg => (h.own.lt g hg).1
theorem withoutN_less (s : Nat) (h0 : s ≠ 0) (hs : s < 18446744073709551616) : withoutN s (Lib.ctz 64 s : Nat) < s := by
  obtain ⟨hk, h1, _⟩ := ctz_bit s h0 hs
  have h2 := without_bit s (Lib.ctz 64 s : Nat) (Lib.ctz 64 s) hk
  have h3 : withoutN s (Lib.ctz 64 s : Nat) ≤ s := Nat.and_le_left
  rcases Nat.lt_or_ge (withoutN s (Lib.ctz 64 s : Nat)) s with h | h
  · exact h
  · exfalso
    have e : withoutN s (Lib.ctz 64 s : Nat) = s := by omega
    rw [e, h1] at h2
    simp at h2
    omega

set_option maxHeartbeats 1000000 in
theorem all_any (s : Nat) (hs : s < 18446744073709551616) (w : World) (ht : TabD w) : Calls Tryd.prog 10 #[.int .u64 (s : Nat)] w (AllPost s w) := by
  obtain ⟨i0, hi, hz0, hz1, hz2⟩ := info_parts intInfo
  have HI := Lib.hid hi; clear hi
  have HZ0 := Lib.hid hz0; clear hz0
  have HZ1 := Lib.hid hz1; clear hz1
  have HZ2 := Lib.hid hz2; clear hz2
  have HS := Lib.hid hs; clear hs
  have HT := Lib.hid ht; clear ht
  have hlen := allN_len s
  go_enter Tryd.func10, Tryd.ntmps10
  go_wp2_with fail
  refine (len_any s HS.out _).mono ?_
  rintro e w' ⟨rfl, rfl⟩
  go_wp2_with (at_make; refine wpList_make_own _ rfl _ _ 25 rfl w.heap.size 3 i0 (.int .i64 0) 1 Tryd.underlying25 HI.out HZ0.out HZ1.out .i64 .i64 _ ((allN s).length) rfl rfl rfl (by rw [HZ2.out]; omega) (by unfold maxLen; omega) (Nat.le_refl _) ?_; intro w0 hown0 hgrow0)
  have HO := Lib.hid (OwnL.mk (w := w) (wr := w0) (l := []) hown0 ((Below.refl _ _).grown hgrow0 (Nat.le_refl _) (by simp)))
  clear hown0 hgrow0
  go_loopw [0, 3] (fun sv v wr => ∃ (pre : List Nat) (s' : Nat), sv = .int .u64 (s' : Nat) ∧ s' < 18446744073709551616 ∧ pre ++ allN s' = allN s ∧ OwnL w wr pre v) (fun sv _ _ => (intOf sv).toNat)
  case atStart => exact ⟨[], s, rfl, HS.out, rfl, HO.out⟩
  case round =>
    obtain ⟨pre, s', rfl, hs2, hpre, O⟩ := hrel
    have HO2 := Lib.hid O; clear O HO
    have HP := Lib.hid hpre; clear hpre
    have HS2 := Lib.hid hs2; clear hs2
    by_cases h0 : s' = 0
    · subst h0
      have hend : Hid (pre = allN s) := Lib.hid (by have := HP.out; rw [allN_zero, List.append_nil] at this; exact this)
      go_wp2_with fail
      go_ret
      exact ⟨_, rfl, by rw [← hend.out]; exact HO2.out⟩
    · have hz : ((s' : Int) != 0) = true := by simp; exact h0
      have hn := Lib.hid (allN_next s' h0 HS2.out)
      have hl := Lib.hid (withoutN_less s' h0 HS2.out)
      have hll : Hid (pre.length ≤ 64) := Lib.hid (by have := congrArg List.length HP.out; simp at this; omega)
      have HT2 : Hid (TabD wr) := Lib.hid (tabD_below HT.out HO2.out.below)
      have H0 := Lib.hid h0; clear h0
      go_wp2_with fail
      refine (first_some s' HS2.out H0.out _ HT2.out).mono ?_
      rintro e w' ⟨rfl, rfl⟩
      go_wp2_with (at_builtin; refine wpList_append_own _ rfl _ _ 25 rfl w.heap.size 3 i0 (.int .i64 0) 1 8 Tryd.underlying25 HI.out HZ0.out HZ1.out HZ2.out rfl (by decide) _ _ _ rfl (HO2.out.own.alloc _) ⟨wr.heap.size, 0, none⟩ 1 1 [.int .i64 (Lib.ctz 64 s' : Nat)] rfl rfl ?c1 ?c2 ?c3 ?c4 ?c5 ?_)
      case c1 =>
        intro j u hj
        match j, hj with
        | 0, hj => simp at hj; subst hj; simp [Addr.add]
      case c2 => intro u hu; simp at hu; subst hu; rfl
      case c3 => have := hll.out; unfold maxLen; omega
      case c4 => have := hll.out; omega
      case c5 => exact Nat.le_trans HO2.out.below.size (by simp)
      intro v' w2 hown' hgrow _
      have O2 := Lib.hid (own_next HO2.out hown' hgrow)
      clear hown' hgrow
      go_wp2_with fail
      refine (without_any s' HS2.out _ _).mono ?_
      rintro e w' ⟨rfl, rfl⟩
      go_wp2_with fail
      go_roundw
      case rel => exact ⟨pre ++ [Lib.ctz 64 s'], _, rfl, withoutN_lt HS2.out _, by rw [← HP.out, hn.out]; simp, O2.out⟩
      case measure => simp [intOf]; exact hl.out
end Go.Proofs.YtiinibblfodaaaaDoor
