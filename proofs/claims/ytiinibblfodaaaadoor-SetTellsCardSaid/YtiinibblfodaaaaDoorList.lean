/- What the law's list answers: an array of 64 bools. -/
import Derived.Test.YtiinibblfodaaaaDoorSet
import Derived.Below
import Derived.Laws.Rows
import Derived.Laws.Tables
import Derived.Deep.WholeRow
import Derived.Laws.CopyOwn
namespace Go.Proofs.YtiinibblfodaaaaDoor
open Go.RowKit

theorem boolsInfo : (Tryd.prog.info? 26).map (fun i => (i.zero, i.size)) = some (some (.agg (cellsB fun _ => false)), 64) := by kernel_rfl

def bitF (s : Nat) (k : Nat) : Nat → Bool := fun j => decide (j < k) && s.testBit j
theorem bitF_zero (s : Nat) : cellsB (bitF s 0) = cellsB fun _ => false := cellsB_ext fun i _ => by simp [bitF]
theorem bitF_all (s : Nat) : cellsB (bitF s 64) = cellsB s.testBit := cellsB_ext fun i hi => by simp [bitF, hi]
theorem bitF_set (s k : Nat) : (cellsB (bitF s k)).setIfInBounds k (.bool (s.testBit k)) = cellsB (bitF s (k + 1)) := by
  rw [cellsB_set]
  apply cellsB_ext
  intro i _
  by_cases h : i = k
  · subst h; simp [bitF]
  · have : decide (i < k + 1) = decide (i < k) := by rw [decide_eq_decide]; omega
    simp [bitF, h, this]
theorem bit_test (s k : Nat) : (((s : Int) / 2 ^ k).tmod 2 == 1) = s.testBit k := by
  have e : ((s : Int) / 2 ^ k).tmod 2 = ((s / 2 ^ k % 2 : Nat) : Int) := by
    have e2 : (s : Int) / 2 ^ k = ((s / 2 ^ k : Nat) : Int) := by simp
    rw [e2, Int.tmod_eq_emod_of_nonneg (Int.natCast_nonneg _)]
    simp
  rw [e, bit_mod]
  cases s.testBit k <;> rfl

/-- The world after k rounds: two blocks more, the second holds the bits below k. -/
structure ListW (w wr : World) (g : Nat) (f : Nat → Bool) : Prop where
  below : Below w.heap.size w wr
  lt : w.heap.size ≤ g
  res : wr.heap[w.heap.size]? = some (.cells (cellsB fun _ => false) 26 (0, 0))
  blk : wr.heap[w.heap.size + 1]? = some (.cells (cellsB f) 26 (0, 0))

theorem list_next {w wr : World} {s k : Nat} (h : ListW w wr (w.heap.size + 1) (bitF s k)) : ListW w (wr.setCell ⟨w.heap.size + 1, k, none⟩ (.bool (s.testBit k))) (w.heap.size + 1) (bitF s (k + 1)) := by
  refine ⟨h.below.setCell (by simp) _, h.lt, ?_, ?_⟩
  · rw [heap_setCell_other _ _ _ _ (by simp)]; exact h.res
  · rw [heap_setCell_same _ _ _ _ _ _ h.blk, bitF_set]

theorem list_any (s : Nat) (w : World) : Calls Tryd.prog 6 #[.int .u64 (s : Nat)] w fun e w' => e = .returned (.agg (cellsB s.testBit)) ∧ Below w.heap.size w w' := by
  obtain ⟨hz, hsz⟩ := zero_of_info boolsInfo
  have HSZ := Lib.hid hsz; clear hsz
  go_enter Tryd.func6, Tryd.ntmps6
  go_wp2
  go_loopw [5] (fun i wr => ∃ k : Nat, k ≤ 64 ∧ i = .int .i64 k ∧ ListW w wr (w.heap.size + 1) (bitF s k)) (fun i _ => 64 - (intOf i).toNat)
  case atStart =>
    refine ⟨0, Nat.zero_le _, rfl, ?_, by omega, ?_, ?_⟩
    · exact ((Below.refl _ _).alloc (Nat.le_refl _) _).alloc (by simp) _
    · exact heap_alloc2_old _ _ _
    · rw [bitF_zero]; exact heap_alloc2_new _ _ _
  case round =>
    obtain ⟨k, hk, rfl, L⟩ := hrel
    have HL := Lib.hid L; clear L
    by_cases hlt : k < 64
    · have hcell : wr.cell? ⟨w.heap.size + 1, k, none⟩ = some (.bool (bitF s k k)) := by
        rw [cell_of_row _ _ _ _ _ _ HL.out.blk]; exact cellsB_get _ _ hlt
      have hfr : wr.frozen? ⟨w.heap.size + 1, k, none⟩ = false := frozen_of_row _ _ _ _ _ HL.out.blk
      have htest : Hid ((((s : Int) / 2 ^ k).tmod 2 == 1) = s.testBit k) := Lib.hid (bit_test s k)
      go_wp2
      go_roundw
      case rel => exact ⟨k + 1, by omega, by go_num, by rw [htest.out]; exact list_next HL.out⟩
      case measure => simp [intOf]; omega
    · obtain rfl : k = 64 := by omega
      have hbits := Lib.hid (bitF_all s)
      go_wp2_with (first
        | (refine wpList_load_row rfl 26 _ rfl (w.heap.size + 1) rfl 26 _ (0, 0) _ HL.out.blk Tryd.underlying26 rfl (by rw [cellsB_size]; exact HSZ.out) ?_)
        | (refine wpList_store_row rfl 26 _ _ rfl w.heap.size (cellsB (bitF s 64)) rfl rfl 26 _ HL.out.res (by rw [cellsB_size]; exact HSZ.out) (by rw [cellsB_size, cellsB_size]) (cellsB_one _) ?_))
      refine bodyPost_ret (v := .agg (cellsB (bitF s 64))) (results_cell_row rfl _ _ w.heap.size 26 _ (0, 0) _ rfl (setRow_heap _ _ _ _ _ _ HL.out.res) Tryd.underlying26 rfl (by rw [cellsB_size]; exact HSZ.out)) rfl ⟨by rw [hbits.out], ?_⟩
      exact below_setRow HL.out.below (Nat.le_refl _) _
end Go.Proofs.YtiinibblfodaaaaDoor
