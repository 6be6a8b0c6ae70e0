/- The walk of the law on any numbers as a set. -/
import Derived.Test.YtiinibblfodaaaaList
import Derived.Test.YtiinibblfodaaaaEqBools
import Derived.Test.YtiinibblfodaaaaSetAwake
import Derived.Test.YtiinibblfodaaaaRow
import Derived.Test.YtiinibblfodaaaaWant
import Derived.Deep.RegionHeld3
import Derived.ProofKit
import Derived.OpenShut
namespace Go.Proofs.Ytiinibblfodaaaa
open Go.RowKit

theorem inB_yes (zs : List Int) (k n : Nat) (hk : k < zs.length) (hx : zs.getD k 0 = (n : Int)) : (cellsB (inB (zs.take k))).setIfInBounds n (.bool true) = cellsB (inB (zs.take (k + 1))) := by
  rw [cellsB_set]
  apply cellsB_ext
  intro i _
  rw [take_snoc_getD _ _ hk, inB_snoc, hx]
  by_cases h : i = n
  · subst h; simp
  · have : ¬ ((n : Int) = (i : Int)) := by omega
    simp [h, this]
theorem inB_no (zs : List Int) (k : Nat) (hk : k < zs.length) (hx : ¬ (0 ≤ zs.getD k 0 ∧ zs.getD k 0 < 64)) : cellsB (inB (zs.take k)) = cellsB (inB (zs.take (k + 1))) := by
  apply cellsB_ext
  intro i hi
  rw [take_snoc_getD _ _ hk, inB_snoc]
  have : decide (zs.getD k 0 = (i : Int)) = false := by rw [decide_eq_false_iff_not]; omega
  rw [this, Bool.or_false]
theorem of_cells (zs : List Int) : cellsB (ofN zs).testBit = cellsB (inB zs) := cellsB_ext fun i hi => ofN_bit zs i hi

theorem setMakes_long (a : Option Addr) (len cap : Nat) (h : 60 < len) (hbig : len ≤ maxLen) (w : World) : Calls Try.prog 3 #[.slice a len cap] w fun e w' => e = .returned (.bool true) ∧ Below w.heap.size w w' := by
  unfold maxLen at hbig
  have h1 : (60 : Int) < (len : Int) := by omega
  go_enter Try.func3, Try.ntmps3
  go_wp2_with fail
  refine (awake _).mono ?_
  rintro e w1 ⟨rfl, hb1⟩
  go_wp2_with fail
  go_ret
  exact ⟨rfl, hb1⟩
/-- What the last region keeps. -/
structure Keeps (w wr : World) (g : Nat) (zs : List Int) (a : Option Addr) : Prop where
  want : WantW w wr g (inB zs)
  row : Row wr a zs
theorem Keeps.later {w wr w2 : World} {g : Nat} {zs : List Int} {a : Option Addr} (h : Keeps w wr g zs a) (hlt : ∀ x, a = some x → 0 < zs.length → x.block < w.heap.size) (hb : Below wr.heap.size wr w2) : Keeps w w2 g zs a := by
  refine ⟨h.want.later hb, row_below h.row (fun x hx h0 => Nat.lt_of_lt_of_le (hlt x hx h0) h.want.below.size) hb⟩

theorem keeps_later {w wr w2 : World} {g : Nat} {zs : List Int} {a : Option Addr} {L : List Value} (hL : L.toArray = cellsB (inB zs)) (hlt : ∀ x, a = some x → 0 < zs.length → x.block < w.heap.size) (h : Keeps w wr g zs a ∧ wr.rangeAt g 0 L) (hb : Below wr.heap.size wr w2) : Keeps w w2 g zs a ∧ w2.rangeAt g 0 L :=
  ⟨h.1.later hlt hb, (h.1.later hlt hb).want.range L hL⟩

set_option maxHeartbeats 1000000 in
theorem setMakes_short (a : Option Addr) (len cap : Nat) (zs : List Int) (w : World) (hz : len = zs.length) (hbig : len ≤ 60) (hc : Row w a zs) (hblk : ∀ x, a = some x → 0 < zs.length → x.block < w.heap.size) :
    Calls Try.prog 3 #[.slice a len cap] w fun e w' => e = .returned (.bool true) ∧ Below w.heap.size w w' := by
  obtain ⟨hzero, hsz⟩ := zero_of_info boolsInfo
  have HSZ := Lib.hid hsz; clear hsz
  have HZ := Lib.hid hz; clear hz
  have HROW := Lib.hid hc
  have split : (len ≤ 0) ∨ ∃ b off, a = some ⟨b, off, none⟩ ∧ ∀ j, j < zs.length → w.cell? ⟨b, off + j, none⟩ = some (.int .i64 (zs.getD j 0)) := by
    rcases hc with h | h
    · left; have := HZ.out; omega
    · exact .inr h
  clear hc
  rcases split with h0 | ⟨b, off, rfl, hc⟩
  · have HBLK := Lib.hid hblk; clear hblk
    go_enter Try.func3, Try.ntmps3
    go_wp2_with fail
    refine (awake _).mono ?_
    rintro e w1 ⟨rfl, hb1⟩
    have HB1 := Lib.hid hb1; clear hb1
    go_wp2_with fail
    go_loopw [13] (fun i wr => ∃ k : Nat, k ≤ len ∧ i = .int .i64 k ∧ WantW w wr w1.heap.size (inB (zs.take k))) (fun i _ => len - (intOf i).toNat)
    case atStart => exact ⟨0, Nat.zero_le _, rfl, WantW.make HB1.out _⟩
    case round =>
      obtain ⟨k, hk, rfl, W⟩ := hrel
      have HW := Lib.hid W; clear W
      by_cases hlt : k < len
      · exfalso; omega
      · obtain rfl : k = len := by omega
        have hzt : zs.take k = zs := by rw [HZ.out, List.take_length]
        have HK : Hid (Keeps w wr w1.heap.size zs a) := Lib.hid ⟨by have := HW.out; rwa [hzt] at this, row_below HROW.out HBLK.out HW.out.below⟩
        obtain ⟨L, hL⟩ : ∃ L : List Value, L.toArray = cellsB (inB zs) := ⟨(cellsB (inB zs)).toList, by simp⟩
        have HKS : Hid (Keeps w wr w1.heap.size zs a ∧ wr.rangeAt w1.heap.size 0 L) := Lib.hid ⟨HK.out, HK.out.want.range L hL⟩
        have hu := Try.underlying24
        have hlen : (Try.prog.info? 24).map (·.size) = some L.length := by
          have : L.length = 64 := by rw [← cellsB_size (inB zs), ← hL]; simp
          rw [this]; exact HSZ.out
        have hE : ∀ W, (Op.equalIn 10000 24 (.agg (cellsB (ofN zs).testBit)) (.agg L.toArray)).run Try.prog W = .ok true W := fun W => by
          rw [hL, of_cells]; exact eq_same _ W
        have hG := guard_bools
        have HL := Lib.hid hL
        clear hzt HW hL
        go_wp2_with fail
        go_region_held3 (fun w' => Keeps w w' w1.heap.size zs a ∧ w'.rangeAt w1.heap.size 0 L) (first | assumption | exact keeps_later HL.out HBLK.out HKS.out (Below.refl _ _).drew | exact keeps_later HL.out HBLK.out (by assumption) (by assumption))
          (first
            | (go_at_call 8; refine (of_any _ _ _ zs _ HZ.out (by omega) (And.left (by assumption : Keeps w _ w1.heap.size zs a ∧ World.rangeAt _ w1.heap.size 0 L)).row).mono ?_; rintro e w' ⟨rfl, rfl⟩)
            | (go_at_call 7; refine (list_any _ _).mono ?_; rintro e w' ⟨rfl, hb⟩))
        all_goals
          have hk2 := (by assumption : Keeps w _ w1.heap.size zs a ∧ World.rangeAt _ w1.heap.size 0 L)
          have hbe := Lib.hid hk2.1.want.below
          clear hk2
          go_wp2_with fail
          go_ret
          exact ⟨rfl, hbe.out⟩
  · have HBLK := Lib.hid hblk; clear hblk
    have HC := Lib.hid hc; clear hc
    go_enter Try.func3, Try.ntmps3
    go_wp2_with fail
    refine (awake _).mono ?_
    rintro e w1 ⟨rfl, hb1⟩
    have HB1 := Lib.hid hb1; clear hb1
    go_wp2_with fail
    go_loopw [13] (fun i wr => ∃ k : Nat, k ≤ len ∧ i = .int .i64 k ∧ WantW w wr w1.heap.size (inB (zs.take k))) (fun i _ => len - (intOf i).toNat)
    case atStart => exact ⟨0, Nat.zero_le _, rfl, WantW.make HB1.out _⟩
    case round =>
      obtain ⟨k, hk, rfl, W⟩ := hrel
      have HW := Lib.hid W; clear W
      by_cases hlt : k < len
      · have hkz : Hid (k < zs.length) := Lib.hid (by rw [← HZ.out]; exact hlt)
        have hcell : wr.cell? ⟨b, off + k, none⟩ = some (.int .i64 (zs.getD k 0)) := by
          rw [HW.out.below.cell (p := ⟨b, off + k, none⟩) (show b < w.heap.size from HBLK.out ⟨b, off, none⟩ rfl (by have := hkz.out; omega))]
          exact HC.out k hkz.out
        by_cases hx : 0 ≤ zs.getD k 0 ∧ zs.getD k 0 < 64
        · obtain ⟨x, hxe⟩ : ∃ x : Nat, zs.getD k 0 = (x : Int) := ⟨(zs.getD k 0).toNat, by omega⟩
          have hn := Lib.hid (inB_yes zs k x hkz.out hxe)
          rw [hxe] at hcell hx
          clear hxe
          have hx2 : x < 64 := by omega
          clear hx
          have hcw := HW.out.cell x hx2
          have hfw := HW.out.free x
          go_wp2_with fail
          go_roundw
          case rel => exact ⟨k + 1, by omega, by go_num, HW.out.set_ x true hn.out⟩
          case measure => simp [intOf]; omega
        · have hn := Lib.hid (inB_no zs k hkz.out hx)
          generalize zs.getD k 0 = x at hcell hx
          by_cases hx1 : x < 0
          · clear hx
            go_wp2_with fail
            go_roundw
            case rel => exact ⟨k + 1, by omega, by go_num, HW.out.turn hn.out⟩
            case measure => simp [intOf]; omega
          · have hx2 : 64 ≤ x := by omega
            have hx3 : 0 ≤ x := by omega
            clear hx hx1
            go_wp2_with fail
            go_roundw
            case rel => exact ⟨k + 1, by omega, by go_num, HW.out.turn hn.out⟩
            case measure => simp [intOf]; omega
      · obtain rfl : k = len := by omega
        have hzt : zs.take k = zs := by rw [HZ.out, List.take_length]
        have HK : Hid (Keeps w wr w1.heap.size zs (some ⟨b, off, none⟩)) := Lib.hid ⟨by have := HW.out; rwa [hzt] at this, row_below HROW.out HBLK.out HW.out.below⟩
        obtain ⟨L, hL⟩ : ∃ L : List Value, L.toArray = cellsB (inB zs) := ⟨(cellsB (inB zs)).toList, by simp⟩
        have HKS : Hid (Keeps w wr w1.heap.size zs (some ⟨b, off, none⟩) ∧ wr.rangeAt w1.heap.size 0 L) := Lib.hid ⟨HK.out, HK.out.want.range L hL⟩
        have hu := Try.underlying24
        have hlen : (Try.prog.info? 24).map (·.size) = some L.length := by
          have : L.length = 64 := by rw [← cellsB_size (inB zs), ← hL]; simp
          rw [this]; exact HSZ.out
        have hE : ∀ W, (Op.equalIn 10000 24 (.agg (cellsB (ofN zs).testBit)) (.agg L.toArray)).run Try.prog W = .ok true W := fun W => by
          rw [hL, of_cells]; exact eq_same _ W
        have hG := guard_bools
        have HL := Lib.hid hL
        clear hzt HW hL
        go_wp2_with fail
        go_region_held3 (fun w' => Keeps w w' w1.heap.size zs (some ⟨b, off, none⟩) ∧ w'.rangeAt w1.heap.size 0 L) (first | assumption | exact keeps_later HL.out HBLK.out HKS.out (Below.refl _ _).drew | exact keeps_later HL.out HBLK.out (by assumption) (by assumption))
          (first
            | (go_at_call 8; refine (of_any _ _ _ zs _ HZ.out (by omega) (And.left (by assumption : Keeps w _ w1.heap.size zs (some ⟨b, off, none⟩) ∧ World.rangeAt _ w1.heap.size 0 L)).row).mono ?_; rintro e w' ⟨rfl, rfl⟩)
            | (go_at_call 7; refine (list_any _ _).mono ?_; rintro e w' ⟨rfl, hb⟩))
        all_goals
          have hk2 := (by assumption : Keeps w _ w1.heap.size zs (some ⟨b, off, none⟩) ∧ World.rangeAt _ w1.heap.size 0 L)
          have hbe := Lib.hid hk2.1.want.below
          clear hk2
          go_wp2_with fail
          go_ret
          exact ⟨rfl, hbe.out⟩

theorem setMakes_row (a : Option Addr) (len cap : Nat) (zs : List Int) (w : World) (h : IsRow .i64 w a len cap zs) : Calls Try.prog 3 #[.slice a len cap] w fun e w' => e = .returned (.bool true) ∧ Below w.heap.size w w' := by
  rcases h with ⟨rfl, rfl, rfl, rfl⟩ | ⟨x, rfl, hl, hm, hz, hcell, hwz⟩
  · exact setMakes_short _ 0 _ [] w rfl (by omega) (.inl rfl) (fun x hx => by cases hx)
  · by_cases h60 : 60 < len
    · exact setMakes_long _ _ _ h60 (by omega) w
    · by_cases h0 : len = 0
      · subst h0
        exact setMakes_short _ 0 _ [] w rfl (by omega) (.inl rfl) (fun x _ h => by simp at h)
      · obtain ⟨b, off, rfl, hc⟩ := ints_at hcell (by omega)
        have hlen : len = (zs.take len).length := by simp; omega
        have hget : ∀ j, j < len → (zs.take len).getD j 0 = zs.getD j 0 := fun j hj => by
          simp [List.getD_eq_getElem?_getD, hj]
        refine setMakes_short _ len _ (zs.take len) w hlen (by omega) (.inr ⟨b, off, rfl, fun j hj => ?_⟩) (fun x hx h => ?_)
        · rw [hget j (by omega)]; exact hc j (by omega)
        · obtain rfl : (⟨b, off, none⟩ : Addr) = x := Option.some.inj hx
          exact World.block_lt_of_cell? w _ (hc 0 (by omega))
end Go.Proofs.Ytiinibblfodaaaa
