/- The walk of the law on a set with, and without, a number. -/
import Derived.Test.YtiinibblfodaaaaList
import Derived.Test.YtiinibblfodaaaaEqBools
import Derived.Test.YtiinibblfodaaaaSetAwake
import Derived.Test.YtiinibblfodaaaaWant
import Derived.Test.YtiinibblfodaaaaHas
import Derived.Deep.RegionHeld3
namespace Go.Proofs.Ytiinibblfodaaaa
open Go.RowKit

theorem with_cells (s n : Nat) (hn : n < 64) : (cellsB s.testBit).setIfInBounds n (.bool true) = cellsB (withN s (n : Int)).testBit := by
  rw [cellsB_set]
  apply cellsB_ext
  intro i hi
  rw [with_bit]
  by_cases h : i = n
  · subst h; simp; omega
  · have : decide (0 ≤ (n : Int) ∧ (n : Int) < 64 ∧ (n : Int).toNat = i) = false := by rw [decide_eq_false_iff_not]; omega
    rw [this]; simp [h]
theorem without_cells (s n : Nat) (hn : n < 64) : (cellsB s.testBit).setIfInBounds n (.bool false) = cellsB (withoutN s (n : Int)).testBit := by
  rw [cellsB_set]
  apply cellsB_ext
  intro i hi
  rw [without_bit _ _ _ hi]
  by_cases h : i = n
  · subst h; simp; omega
  · have : decide (0 ≤ (n : Int) ∧ (n : Int) < 64 ∧ (n : Int).toNat = i) = false := by rw [decide_eq_false_iff_not]; omega
    rw [this]; simp [h]
theorem with_out (s : Nat) (n : Int) (h : ¬ (0 ≤ n ∧ n < 64)) : cellsB s.testBit = cellsB (withN s n).testBit := cellsB_ext fun i hi => by
  rw [with_bit]
  have : decide (0 ≤ n ∧ n < 64 ∧ n.toNat = i) = false := by rw [decide_eq_false_iff_not]; omega
  rw [this]; simp
theorem without_out (s : Nat) (n : Int) (h : ¬ (0 ≤ n ∧ n < 64)) : cellsB s.testBit = cellsB (withoutN s n).testBit := cellsB_ext fun i hi => by
  rw [without_bit _ _ _ hi]
  have : decide (0 ≤ n ∧ n < 64 ∧ n.toNat = i) = false := by rw [decide_eq_false_iff_not]; omega
  rw [this]; simp

theorem has_in (s x : Nat) (hx : x < 64) : hasN s (x : Int) = s.testBit x := by
  unfold hasN
  rw [decide_eq_true (by omega : 0 ≤ (x : Int) ∧ (x : Int) < 64)]
  simp
theorem has_out (s : Nat) (n : Int) (h : ¬ (0 ≤ n ∧ n < 64)) : hasN s n = false := by
  unfold hasN
  rw [decide_eq_false h]; rfl

set_option maxHeartbeats 1000000 in
theorem setChanges_in (s x : Nat) (hs : s < 18446744073709551616) (hx2 : x < 64) (w : World) : Calls Try.prog 4 #[.int .u64 (s : Nat), .int .i64 (x : Int)] w fun e w' => e = .returned (.bool true) ∧ Below w.heap.size w w' := by
    obtain ⟨hzero, hsz⟩ := zero_of_info boolsInfo
    have HSZ := Lib.hid hsz; clear hsz
    have HS := Lib.hid hs; clear hs
    have HH := Lib.hid (has_in s x hx2)
    go_enter Try.func4, Try.ntmps4
    go_wp2_with fail
    refine (awake _).mono ?_
    rintro e w1 ⟨rfl, hb1⟩
    have HB1 := Lib.hid hb1; clear hb1
    go_wp2_with fail
    refine (list_any s _).mono ?_
    rintro e w2 ⟨rfl, hb2⟩
    have HB2 := Lib.hid hb2; clear hb2
    go_wp2_with fail
    refine (list_any s _).mono ?_
    rintro e w3 ⟨rfl, hb3⟩
    have HB3 := Lib.hid hb3; clear hb3
    go_wp2_with (first
      | (refine wpList_store_row rfl 24 (.tmp 6) (.tmp 13) rfl w3.heap.size (cellsB s.testBit) rfl rfl 24 (cellsB fun _ => false) ?c1 ?c2 ?c3 (cellsB_one _) ?_)
      | (refine wpList_store_row rfl 24 (.tmp 7) (.tmp 15) rfl (w3.heap.size + 1) (cellsB s.testBit) rfl rfl 24 (cellsB fun _ => false) ?d1 ?d2 ?d3 (cellsB_one _) ?_
         rotate_right 1
         generalize hw : World.setRow (World.setRow _ _ _) _ _ = wr
         have HT : Hid (TwoW w wr w3.heap.size (w3.heap.size + 1) s.testBit s.testBit) := Lib.hid (by rw [← hw]; exact TwoW.make ((HB1.out.trans (HB2.out.mono HB1.out.size)).trans (HB3.out.mono (Nat.le_trans HB1.out.size HB2.out.size))) _ _ _)
         clear hw
         have hc1 := HT.out.one.cell x hx2
         have hc2 := HT.out.two.cell x hx2
         have hf1 := HT.out.one.free x
         have hf2 := HT.out.two.free x))
    case c1 => exact heap_alloc2_old _ _ _
    case d1 => exact row_second w3 _ _ _ _
    case c2 => rw [cellsB_size]; exact HSZ.out
    case d2 => rw [cellsB_size]; exact HSZ.out
    case c3 => rw [cellsB_size, cellsB_size]
    case d3 => rw [cellsB_size, cellsB_size]
    generalize hw2 : World.setCell (World.setCell _ _ _) _ _ = wq
    have HQ : Hid (TwoW w wq w3.heap.size (w3.heap.size + 1) (withN s x).testBit (withoutN s x).testBit) := Lib.hid (by
      rw [← hw2]
      have hn := HT.out.one.new
      exact ⟨(HT.out.one.set_ x true (with_cells s x hx2)).far (by omega) HT.out.ne _ _, (HT.out.two.far hn HT.out.ne.symm _ _).set_ x false (without_cells s x hx2), HT.out.ne⟩)
    clear hw2 hc1 hc2 hf1 hf2
    obtain ⟨L1, e1, l1⟩ := list_of (withN s x).testBit
    obtain ⟨L2, e2, l2⟩ := list_of (withoutN s x).testBit
    have HKS : Hid (TwoW w wq w3.heap.size (w3.heap.size + 1) (withN s x).testBit (withoutN s x).testBit ∧ World.rangeAt wq w3.heap.size 0 L1 ∧ World.rangeAt wq (w3.heap.size + 1) 0 L2) := Lib.hid (HQ.out.ranges e1 e2)
    have hu := Try.underlying24
    have hl1 : (Try.prog.info? 24).map (·.size) = some L1.length := by rw [l1]; exact HSZ.out
    have hl2 : (Try.prog.info? 24).map (·.size) = some L2.length := by rw [l2]; exact HSZ.out
    have hE1 : ∀ W, (Op.equalIn 10000 24 (.agg (cellsB (withN s x).testBit)) (.agg L1.toArray)).run Try.prog W = .ok true W := fun W => by rw [e1]; exact eq_same _ W
    have hE2 : ∀ W, (Op.equalIn 10000 24 (.agg (cellsB (withoutN s x).testBit)) (.agg L2.toArray)).run Try.prog W = .ok true W := fun W => by rw [e2]; exact eq_same _ W
    have hG := guard_bools
    have E1 := Lib.hid e1
    have E2 := Lib.hid e2
    clear e1 e2 l1 l2
    refine wp_region_held_drew (S := fun w' => TwoW w w' w3.heap.size (w3.heap.size + 1) (withN s x).testBit (withoutN s x).testBit ∧ w'.rangeAt w3.heap.size 0 L1 ∧ w'.rangeAt (w3.heap.size + 1) 0 L2) (by kernel_rfl) ?_ (fun hHeld => ?_)
    · exact two_later E1.out E2.out HKS.out (Below.refl _ _).drew
    refine wpAnyH_take (i := 0) (v := ?_) rfl (by kernel_rfl) (by kernel_rfl) (by kernel_rfl) (fun _ _ _ h => h) (Or.inl ⟨by rfl, ?_⟩) hHeld ?_
    rotate_left
    · intro W hW; go_simp; (try with_reducible rfl)
    try simp only [Act.put, List.setIfInBounds_toArray, List.set_cons_zero, List.set_cons_succ, List.getElem_toArray, List.getElem_cons_zero]
    refine wpAnyH_take (i := 1) (v := ?_) rfl (by kernel_rfl) (by kernel_rfl) (by kernel_rfl) (fun _ _ _ h => h) (Or.inl ⟨by rfl, ?_⟩) hHeld ?_
    rotate_left
    · intro W hW; go_simp; (try with_reducible rfl)
    try simp only [Act.put, List.setIfInBounds_toArray, List.set_cons_zero, List.set_cons_succ, List.getElem_toArray, List.getElem_cons_zero, List.getElem_cons_succ]
    refine wpAnyH_take (i := 4) rfl (by kernel_rfl) (by kernel_rfl) (by kernel_rfl) (fun _ _ _ h => h) (yieldsIf_load_mid (by rfl) _ _ rfl _ _ rfl L1 _ (fun W hW => hW.2.1) hu rfl hl1) hHeld ?_
    try simp only [Act.put, List.setIfInBounds_toArray, List.set_cons_zero, List.set_cons_succ, List.getElem_toArray, List.getElem_cons_zero, List.getElem_cons_succ]
    refine wpAnyH_ready (rs := [2]) (by kernel_rfl) (by simp) ?_
    refine AllReadyH.cons rfl (fun K hK => ?_) AllReadyH.nil
    go_simp
    refine (with_any s HS.out _ _).mono ?_; rintro e w' ⟨rfl, rfl⟩; go_wp2_with fail
    refine hK.out _ _ ?_ (fun hHeld => ?_)
    · exact hHeld
    clear hK K
    try simp only [Act.put, List.setIfInBounds_toArray, List.set_cons_zero, List.set_cons_succ, List.getElem_toArray, List.getElem_cons_zero, List.getElem_cons_succ]
    refine wpAnyH_ready (rs := [3]) (by kernel_rfl) (by simp) ?_
    refine AllReadyH.cons rfl (fun K hK => ?_) AllReadyH.nil
    go_simp
    refine (list_any _ _).mono ?_; rintro e w4 ⟨rfl, hb4⟩; go_wp2_with fail
    refine hK.out _ _ ?_ (fun hHeld => ?_)
    · exact two_later E1.out E2.out hHeld hb4
    clear hK K
    try simp only [Act.put, List.setIfInBounds_toArray, List.set_cons_zero, List.set_cons_succ, List.getElem_toArray, List.getElem_cons_zero, List.getElem_cons_succ]
    refine wpAnyH_take (i := 5) (v := ?_) rfl (by kernel_rfl) (by kernel_rfl) (by kernel_rfl) (fun _ _ _ h => h) (Or.inl ⟨by rfl, ?_⟩) hHeld ?_
    rotate_left
    · intro W hW; go_simp; (try with_reducible rfl)
    try simp only [Act.put, List.setIfInBounds_toArray, List.set_cons_zero, List.set_cons_succ, List.getElem_toArray, List.getElem_cons_zero, List.getElem_cons_succ]
    refine wpAnyH_take (i := 6) (v := ?_) rfl (by kernel_rfl) (by kernel_rfl) (by kernel_rfl) (fun _ _ _ h => h) (Or.inl ⟨by rfl, ?_⟩) hHeld ?_
    rotate_left
    · intro W hW; go_simp; (try with_reducible rfl)
    try simp only [Act.put, List.setIfInBounds_toArray, List.set_cons_zero, List.set_cons_succ, List.getElem_toArray, List.getElem_cons_zero, List.getElem_cons_succ]
    refine wpAnyH_take (i := 7) (v := ?_) rfl (by kernel_rfl) (by kernel_rfl) (by kernel_rfl) (fun _ _ _ h => h) (Or.inl ⟨by rfl, ?_⟩) hHeld ?_
    rotate_left
    · intro W hW; go_simp; (try with_reducible rfl)
    try simp only [Act.put, List.setIfInBounds_toArray, List.set_cons_zero, List.set_cons_succ, List.getElem_toArray, List.getElem_cons_zero, List.getElem_cons_succ]
    refine wpAnyH_take (i := 8) (v := ?_) rfl (by kernel_rfl) (by kernel_rfl) (by kernel_rfl) (fun _ _ _ h => h) (Or.inl ⟨by rfl, ?_⟩) hHeld ?_
    rotate_left
    · intro W hW; go_simp; (try with_reducible rfl)
    try simp only [Act.put, List.setIfInBounds_toArray, List.set_cons_zero, List.set_cons_succ, List.getElem_toArray, List.getElem_cons_zero, List.getElem_cons_succ]
    refine wpAnyH_take (i := 11) rfl (by kernel_rfl) (by kernel_rfl) (by kernel_rfl) (fun _ _ _ h => h) (yieldsIf_load_mid (by rfl) _ _ rfl _ _ rfl L2 _ (fun W hW => hW.2.2) hu rfl hl2) hHeld ?_
    try simp only [Act.put, List.setIfInBounds_toArray, List.set_cons_zero, List.set_cons_succ, List.getElem_toArray, List.getElem_cons_zero, List.getElem_cons_succ]
    refine wpAnyH_ready (rs := [9]) (by kernel_rfl) (by simp) ?_
    refine AllReadyH.cons rfl (fun K hK => ?_) AllReadyH.nil
    go_simp
    refine (without_any s HS.out _ _).mono ?_; rintro e w' ⟨rfl, rfl⟩; go_wp2_with fail
    refine hK.out _ _ ?_ (fun hHeld => ?_)
    · exact hHeld
    clear hK K
    try simp only [Act.put, List.setIfInBounds_toArray, List.set_cons_zero, List.set_cons_succ, List.getElem_toArray, List.getElem_cons_zero, List.getElem_cons_succ]
    refine wpAnyH_ready (rs := [10]) (by kernel_rfl) (by simp) ?_
    refine AllReadyH.cons rfl (fun K hK => ?_) AllReadyH.nil
    go_simp
    refine (list_any _ _).mono ?_; rintro e w5 ⟨rfl, hb5⟩; go_wp2_with fail
    refine hK.out _ _ ?_ (fun hHeld => ?_)
    · exact two_later E1.out E2.out hHeld hb5
    clear hK K
    try simp only [Act.put, List.setIfInBounds_toArray, List.set_cons_zero, List.set_cons_succ, List.getElem_toArray, List.getElem_cons_zero, List.getElem_cons_succ]
    refine wpAnyH_take (i := 12) (v := ?_) rfl (by kernel_rfl) (by kernel_rfl) (by kernel_rfl) (fun _ _ _ h => h) (Or.inl ⟨by rfl, ?_⟩) hHeld ?_
    rotate_left
    · intro W hW; go_simp; (try with_reducible rfl)
    try simp only [Act.put, List.setIfInBounds_toArray, List.set_cons_zero, List.set_cons_succ, List.getElem_toArray, List.getElem_cons_zero, List.getElem_cons_succ]
    refine wpAnyH_take (i := 13) (v := ?_) rfl (by kernel_rfl) (by kernel_rfl) (by kernel_rfl) (fun _ _ _ h => h) (Or.inl ⟨by rfl, ?_⟩) hHeld ?_
    rotate_left
    · intro W hW; go_simp; (try with_reducible rfl)
    try simp only [Act.put, List.setIfInBounds_toArray, List.set_cons_zero, List.set_cons_succ, List.getElem_toArray, List.getElem_cons_zero, List.getElem_cons_succ]
    refine wpAnyH_take (i := 14) (v := ?_) rfl (by kernel_rfl) (by kernel_rfl) (by kernel_rfl) (fun _ _ _ h => h) (Or.inl ⟨by rfl, ?_⟩) hHeld ?_
    rotate_left
    · intro W hW; go_simp; (try with_reducible rfl)
    try simp only [Act.put, List.setIfInBounds_toArray, List.set_cons_zero, List.set_cons_succ, List.getElem_toArray, List.getElem_cons_zero, List.getElem_cons_succ]
    refine wpAnyH_take (i := 15) (v := ?_) rfl (by kernel_rfl) (by kernel_rfl) (by kernel_rfl) (fun _ _ _ h => h) (Or.inl ⟨by rfl, ?_⟩) hHeld ?_
    rotate_left
    · intro W hW; go_simp; (try with_reducible rfl)
    try simp only [Act.put, List.setIfInBounds_toArray, List.set_cons_zero, List.set_cons_succ, List.getElem_toArray, List.getElem_cons_zero, List.getElem_cons_succ]
    refine wpAnyH_take (i := 16) (v := ?_) rfl (by kernel_rfl) (by kernel_rfl) (by kernel_rfl) (fun _ _ _ h => h) (Or.inl ⟨by rfl, ?_⟩) hHeld ?_
    rotate_left
    · intro W hW; go_simp; (try with_reducible rfl)
    try simp only [Act.put, List.setIfInBounds_toArray, List.set_cons_zero, List.set_cons_succ, List.getElem_toArray, List.getElem_cons_zero, List.getElem_cons_succ]
    refine wpAnyH_take (i := 18) (v := ?_) rfl (by kernel_rfl) (by kernel_rfl) (by kernel_rfl) (fun _ _ _ h => h) (Or.inl ⟨by rfl, ?_⟩) hHeld ?_
    rotate_left
    · intro W hW; go_simp; (try with_reducible rfl)
    try simp only [Act.put, List.setIfInBounds_toArray, List.set_cons_zero, List.set_cons_succ, List.getElem_toArray, List.getElem_cons_zero, List.getElem_cons_succ]
    refine wpAnyH_ready (rs := [17]) (by kernel_rfl) (by simp) ?_
    refine AllReadyH.cons rfl (fun K hK => ?_) AllReadyH.nil
    go_simp
    refine (has_any s HS.out _ _).mono ?_; rw [HH.out]; rintro e w' ⟨rfl, rfl⟩; go_wp2_with fail
    refine hK.out _ _ ?_ (fun hHeld => ?_)
    · exact hHeld
    clear hK K
    try simp only [Act.put, List.setIfInBounds_toArray, List.set_cons_zero, List.set_cons_succ, List.getElem_toArray, List.getElem_cons_zero, List.getElem_cons_succ]
    refine wpAnyH_take (i := 19) (v := ?_) rfl (by kernel_rfl) (by kernel_rfl) (by kernel_rfl) (fun _ _ _ h => h) (Or.inl ⟨by rfl, ?_⟩) hHeld ?_
    rotate_left
    · intro W hW; go_simp; (try with_reducible rfl)
    try simp only [Act.put, List.setIfInBounds_toArray, List.set_cons_zero, List.set_cons_succ, List.getElem_toArray, List.getElem_cons_zero, List.getElem_cons_succ]
    refine wpAnyH_take (i := 20) (v := ?_) rfl (by kernel_rfl) (by kernel_rfl) (by kernel_rfl) (fun _ _ _ h => h) (Or.inl ⟨by rfl, ?_⟩) hHeld ?_
    rotate_left
    · intro W hW; go_simp; (try with_reducible rfl)
    try simp only [Act.put, List.setIfInBounds_toArray, List.set_cons_zero, List.set_cons_succ, List.getElem_toArray, List.getElem_cons_zero, List.getElem_cons_succ]
    refine wpAnyH_take (i := 21) (v := ?_) rfl (by kernel_rfl) (by kernel_rfl) (by kernel_rfl) (fun _ _ _ h => h) (Or.inl ⟨by rfl, ?_⟩) hHeld ?_
    rotate_left
    · intro W hW; go_simp; (try with_reducible rfl)
    try simp only [Act.put, List.setIfInBounds_toArray, List.set_cons_zero, List.set_cons_succ, List.getElem_toArray, List.getElem_cons_zero, List.getElem_cons_succ]
    refine wpAnyH_done (by kernel_rfl) ?_ _
    have hbe := Lib.hid hHeld.1.one.below
    clear hHeld
    go_wp2_with fail
    go_ret
    exact ⟨rfl, hbe.out⟩

set_option maxHeartbeats 1000000 in
theorem setChanges_out (s : Nat) (n : Int) (hs : s < 18446744073709551616) (hx : ¬ (0 ≤ n ∧ n < 64)) (w : World) : Calls Try.prog 4 #[.int .u64 (s : Nat), .int .i64 n] w fun e w' => e = .returned (.bool true) ∧ Below w.heap.size w w' := by
    obtain ⟨hzero, hsz⟩ := zero_of_info boolsInfo
    have HSZ := Lib.hid hsz; clear hsz
    have HS := Lib.hid hs; clear hs
    have HH := Lib.hid (has_out s n hx)
    have HX := Lib.hid hx
    have split : n < 0 ∨ 64 ≤ n := by omega
    clear hx
    rcases split with hx | hx
    · go_enter Try.func4, Try.ntmps4
      go_wp2_with fail
      refine (awake _).mono ?_
      rintro e w1 ⟨rfl, hb1⟩
      have HB1 := Lib.hid hb1; clear hb1
      go_wp2_with fail
      refine (list_any s _).mono ?_
      rintro e w2 ⟨rfl, hb2⟩
      have HB2 := Lib.hid hb2; clear hb2
      go_wp2_with fail
      refine (list_any s _).mono ?_
      rintro e w3 ⟨rfl, hb3⟩
      have HB3 := Lib.hid hb3; clear hb3
      go_wp2_with (first
        | (refine wpList_store_row rfl 24 (.tmp 6) (.tmp 13) rfl w3.heap.size (cellsB s.testBit) rfl rfl 24 (cellsB fun _ => false) ?c1 ?c2 ?c3 (cellsB_one _) ?_)
        | (refine wpList_store_row rfl 24 (.tmp 7) (.tmp 15) rfl (w3.heap.size + 1) (cellsB s.testBit) rfl rfl 24 (cellsB fun _ => false) ?d1 ?d2 ?d3 (cellsB_one _) ?_
           rotate_right 1
           generalize hw : World.setRow (World.setRow _ _ _) _ _ = wr
           have HT : Hid (TwoW w wr w3.heap.size (w3.heap.size + 1) s.testBit s.testBit) := Lib.hid (by rw [← hw]; exact TwoW.make ((HB1.out.trans (HB2.out.mono HB1.out.size)).trans (HB3.out.mono (Nat.le_trans HB1.out.size HB2.out.size))) _ _ _)
           clear hw))
      case c1 => exact heap_alloc2_old _ _ _
      case d1 => exact row_second w3 _ _ _ _
      case c2 => rw [cellsB_size]; exact HSZ.out
      case d2 => rw [cellsB_size]; exact HSZ.out
      case c3 => rw [cellsB_size, cellsB_size]
      case d3 => rw [cellsB_size, cellsB_size]
      have HQ : Hid (TwoW w wr w3.heap.size (w3.heap.size + 1) (withN s n).testBit (withoutN s n).testBit) := Lib.hid (HT.out.turn (with_out s n HX.out) (without_out s n HX.out))
      obtain ⟨L1, e1, l1⟩ := list_of (withN s n).testBit
      obtain ⟨L2, e2, l2⟩ := list_of (withoutN s n).testBit
      have HKS : Hid (TwoW w wr w3.heap.size (w3.heap.size + 1) (withN s n).testBit (withoutN s n).testBit ∧ World.rangeAt wr w3.heap.size 0 L1 ∧ World.rangeAt wr (w3.heap.size + 1) 0 L2) := Lib.hid (HQ.out.ranges e1 e2)
      have hu := Try.underlying24
      have hl1 : (Try.prog.info? 24).map (·.size) = some L1.length := by rw [l1]; exact HSZ.out
      have hl2 : (Try.prog.info? 24).map (·.size) = some L2.length := by rw [l2]; exact HSZ.out
      have hE1 : ∀ W, (Op.equalIn 10000 24 (.agg (cellsB (withN s n).testBit)) (.agg L1.toArray)).run Try.prog W = .ok true W := fun W => by rw [e1]; exact eq_same _ W
      have hE2 : ∀ W, (Op.equalIn 10000 24 (.agg (cellsB (withoutN s n).testBit)) (.agg L2.toArray)).run Try.prog W = .ok true W := fun W => by rw [e2]; exact eq_same _ W
      have hG := guard_bools
      have E1 := Lib.hid e1
      have E2 := Lib.hid e2
      clear e1 e2 l1 l2
      refine wp_region_held_drew (S := fun w' => TwoW w w' w3.heap.size (w3.heap.size + 1) (withN s n).testBit (withoutN s n).testBit ∧ w'.rangeAt w3.heap.size 0 L1 ∧ w'.rangeAt (w3.heap.size + 1) 0 L2) (by kernel_rfl) ?_ (fun hHeld => ?_)
      · exact two_later E1.out E2.out HKS.out (Below.refl _ _).drew
      refine wpAnyH_take (i := 0) (v := ?_) rfl (by kernel_rfl) (by kernel_rfl) (by kernel_rfl) (fun _ _ _ h => h) (Or.inl ⟨by rfl, ?_⟩) hHeld ?_
      rotate_left
      · intro W hW; go_simp; (try with_reducible rfl)
      try simp only [Act.put, List.setIfInBounds_toArray, List.set_cons_zero, List.set_cons_succ, List.getElem_toArray, List.getElem_cons_zero]
      refine wpAnyH_take (i := 1) (v := ?_) rfl (by kernel_rfl) (by kernel_rfl) (by kernel_rfl) (fun _ _ _ h => h) (Or.inl ⟨by rfl, ?_⟩) hHeld ?_
      rotate_left
      · intro W hW; go_simp; (try with_reducible rfl)
      try simp only [Act.put, List.setIfInBounds_toArray, List.set_cons_zero, List.set_cons_succ, List.getElem_toArray, List.getElem_cons_zero, List.getElem_cons_succ]
      refine wpAnyH_take (i := 4) rfl (by kernel_rfl) (by kernel_rfl) (by kernel_rfl) (fun _ _ _ h => h) (yieldsIf_load_mid (by rfl) _ _ rfl _ _ rfl L1 _ (fun W hW => hW.2.1) hu rfl hl1) hHeld ?_
      try simp only [Act.put, List.setIfInBounds_toArray, List.set_cons_zero, List.set_cons_succ, List.getElem_toArray, List.getElem_cons_zero, List.getElem_cons_succ]
      refine wpAnyH_ready (rs := [2]) (by kernel_rfl) (by simp) ?_
      refine AllReadyH.cons rfl (fun K hK => ?_) AllReadyH.nil
      go_simp
      refine (with_any s HS.out _ _).mono ?_; rintro e w' ⟨rfl, rfl⟩; go_wp2_with fail
      refine hK.out _ _ ?_ (fun hHeld => ?_)
      · exact hHeld
      clear hK K
      try simp only [Act.put, List.setIfInBounds_toArray, List.set_cons_zero, List.set_cons_succ, List.getElem_toArray, List.getElem_cons_zero, List.getElem_cons_succ]
      refine wpAnyH_ready (rs := [3]) (by kernel_rfl) (by simp) ?_
      refine AllReadyH.cons rfl (fun K hK => ?_) AllReadyH.nil
      go_simp
      refine (list_any _ _).mono ?_; rintro e w4 ⟨rfl, hb4⟩; go_wp2_with fail
      refine hK.out _ _ ?_ (fun hHeld => ?_)
      · exact two_later E1.out E2.out hHeld hb4
      clear hK K
      try simp only [Act.put, List.setIfInBounds_toArray, List.set_cons_zero, List.set_cons_succ, List.getElem_toArray, List.getElem_cons_zero, List.getElem_cons_succ]
      refine wpAnyH_take (i := 5) (v := ?_) rfl (by kernel_rfl) (by kernel_rfl) (by kernel_rfl) (fun _ _ _ h => h) (Or.inl ⟨by rfl, ?_⟩) hHeld ?_
      rotate_left
      · intro W hW; go_simp; (try with_reducible rfl)
      try simp only [Act.put, List.setIfInBounds_toArray, List.set_cons_zero, List.set_cons_succ, List.getElem_toArray, List.getElem_cons_zero, List.getElem_cons_succ]
      refine wpAnyH_take (i := 6) (v := ?_) rfl (by kernel_rfl) (by kernel_rfl) (by kernel_rfl) (fun _ _ _ h => h) (Or.inl ⟨by rfl, ?_⟩) hHeld ?_
      rotate_left
      · intro W hW; go_simp; (try with_reducible rfl)
      try simp only [Act.put, List.setIfInBounds_toArray, List.set_cons_zero, List.set_cons_succ, List.getElem_toArray, List.getElem_cons_zero, List.getElem_cons_succ]
      refine wpAnyH_take (i := 7) (v := ?_) rfl (by kernel_rfl) (by kernel_rfl) (by kernel_rfl) (fun _ _ _ h => h) (Or.inl ⟨by rfl, ?_⟩) hHeld ?_
      rotate_left
      · intro W hW; go_simp; (try with_reducible rfl)
      try simp only [Act.put, List.setIfInBounds_toArray, List.set_cons_zero, List.set_cons_succ, List.getElem_toArray, List.getElem_cons_zero, List.getElem_cons_succ]
      refine wpAnyH_take (i := 8) (v := ?_) rfl (by kernel_rfl) (by kernel_rfl) (by kernel_rfl) (fun _ _ _ h => h) (Or.inl ⟨by rfl, ?_⟩) hHeld ?_
      rotate_left
      · intro W hW; go_simp; (try with_reducible rfl)
      try simp only [Act.put, List.setIfInBounds_toArray, List.set_cons_zero, List.set_cons_succ, List.getElem_toArray, List.getElem_cons_zero, List.getElem_cons_succ]
      refine wpAnyH_take (i := 11) rfl (by kernel_rfl) (by kernel_rfl) (by kernel_rfl) (fun _ _ _ h => h) (yieldsIf_load_mid (by rfl) _ _ rfl _ _ rfl L2 _ (fun W hW => hW.2.2) hu rfl hl2) hHeld ?_
      try simp only [Act.put, List.setIfInBounds_toArray, List.set_cons_zero, List.set_cons_succ, List.getElem_toArray, List.getElem_cons_zero, List.getElem_cons_succ]
      refine wpAnyH_ready (rs := [9]) (by kernel_rfl) (by simp) ?_
      refine AllReadyH.cons rfl (fun K hK => ?_) AllReadyH.nil
      go_simp
      refine (without_any s HS.out _ _).mono ?_; rintro e w' ⟨rfl, rfl⟩; go_wp2_with fail
      refine hK.out _ _ ?_ (fun hHeld => ?_)
      · exact hHeld
      clear hK K
      try simp only [Act.put, List.setIfInBounds_toArray, List.set_cons_zero, List.set_cons_succ, List.getElem_toArray, List.getElem_cons_zero, List.getElem_cons_succ]
      refine wpAnyH_ready (rs := [10]) (by kernel_rfl) (by simp) ?_
      refine AllReadyH.cons rfl (fun K hK => ?_) AllReadyH.nil
      go_simp
      refine (list_any _ _).mono ?_; rintro e w5 ⟨rfl, hb5⟩; go_wp2_with fail
      refine hK.out _ _ ?_ (fun hHeld => ?_)
      · exact two_later E1.out E2.out hHeld hb5
      clear hK K
      try simp only [Act.put, List.setIfInBounds_toArray, List.set_cons_zero, List.set_cons_succ, List.getElem_toArray, List.getElem_cons_zero, List.getElem_cons_succ]
      refine wpAnyH_take (i := 12) (v := ?_) rfl (by kernel_rfl) (by kernel_rfl) (by kernel_rfl) (fun _ _ _ h => h) (Or.inl ⟨by rfl, ?_⟩) hHeld ?_
      rotate_left
      · intro W hW; go_simp; (try with_reducible rfl)
      try simp only [Act.put, List.setIfInBounds_toArray, List.set_cons_zero, List.set_cons_succ, List.getElem_toArray, List.getElem_cons_zero, List.getElem_cons_succ]
      refine wpAnyH_take (i := 13) (v := ?_) rfl (by kernel_rfl) (by kernel_rfl) (by kernel_rfl) (fun _ _ _ h => h) (Or.inl ⟨by rfl, ?_⟩) hHeld ?_
      rotate_left
      · intro W hW; go_simp; (try with_reducible rfl)
      try simp only [Act.put, List.setIfInBounds_toArray, List.set_cons_zero, List.set_cons_succ, List.getElem_toArray, List.getElem_cons_zero, List.getElem_cons_succ]
      refine wpAnyH_take (i := 14) (v := ?_) rfl (by kernel_rfl) (by kernel_rfl) (by kernel_rfl) (fun _ _ _ h => h) (Or.inl ⟨by rfl, ?_⟩) hHeld ?_
      rotate_left
      · intro W hW; go_simp; (try with_reducible rfl)
      try simp only [Act.put, List.setIfInBounds_toArray, List.set_cons_zero, List.set_cons_succ, List.getElem_toArray, List.getElem_cons_zero, List.getElem_cons_succ]
      refine wpAnyH_take (i := 15) (v := ?_) rfl (by kernel_rfl) (by kernel_rfl) (by kernel_rfl) (fun _ _ _ h => h) (Or.inl ⟨by rfl, ?_⟩) hHeld ?_
      rotate_left
      · intro W hW; go_simp; (try with_reducible rfl)
      try simp only [Act.put, List.setIfInBounds_toArray, List.set_cons_zero, List.set_cons_succ, List.getElem_toArray, List.getElem_cons_zero, List.getElem_cons_succ]
      refine wpAnyH_take (i := 16) (v := ?_) rfl (by kernel_rfl) (by kernel_rfl) (by kernel_rfl) (fun _ _ _ h => h) (Or.inl ⟨by rfl, ?_⟩) hHeld ?_
      rotate_left
      · intro W hW; go_simp; (try with_reducible rfl)
      try simp only [Act.put, List.setIfInBounds_toArray, List.set_cons_zero, List.set_cons_succ, List.getElem_toArray, List.getElem_cons_zero, List.getElem_cons_succ]
      refine wpAnyH_take (i := 18) (v := ?_) rfl (by kernel_rfl) (by kernel_rfl) (by kernel_rfl) (fun _ _ _ h => h) (Or.inl ⟨by rfl, ?_⟩) hHeld ?_
      rotate_left
      · intro W hW; go_simp; (try with_reducible rfl)
      try simp only [Act.put, List.setIfInBounds_toArray, List.set_cons_zero, List.set_cons_succ, List.getElem_toArray, List.getElem_cons_zero, List.getElem_cons_succ]
      refine wpAnyH_ready (rs := [17]) (by kernel_rfl) (by simp) ?_
      refine AllReadyH.cons rfl (fun K hK => ?_) AllReadyH.nil
      go_simp
      refine (has_any s HS.out _ _).mono ?_; rw [HH.out]; rintro e w' ⟨rfl, rfl⟩; go_wp2_with fail
      refine hK.out _ _ ?_ (fun hHeld => ?_)
      · exact hHeld
      clear hK K
      try simp only [Act.put, List.setIfInBounds_toArray, List.set_cons_zero, List.set_cons_succ, List.getElem_toArray, List.getElem_cons_zero, List.getElem_cons_succ]
      refine wpAnyH_take (i := 19) (v := ?_) rfl (by kernel_rfl) (by kernel_rfl) (by kernel_rfl) (fun _ _ _ h => h) (Or.inl ⟨by rfl, ?_⟩) hHeld ?_
      rotate_left
      · intro W hW; go_simp; (try with_reducible rfl)
      try simp only [Act.put, List.setIfInBounds_toArray, List.set_cons_zero, List.set_cons_succ, List.getElem_toArray, List.getElem_cons_zero, List.getElem_cons_succ]
      refine wpAnyH_take (i := 20) (v := ?_) rfl (by kernel_rfl) (by kernel_rfl) (by kernel_rfl) (fun _ _ _ h => h) (Or.inl ⟨by rfl, ?_⟩) hHeld ?_
      rotate_left
      · intro W hW; go_simp; (try with_reducible rfl)
      try simp only [Act.put, List.setIfInBounds_toArray, List.set_cons_zero, List.set_cons_succ, List.getElem_toArray, List.getElem_cons_zero, List.getElem_cons_succ]
      refine wpAnyH_take (i := 21) (v := ?_) rfl (by kernel_rfl) (by kernel_rfl) (by kernel_rfl) (fun _ _ _ h => h) (Or.inl ⟨by rfl, ?_⟩) hHeld ?_
      rotate_left
      · intro W hW; go_simp; (try with_reducible rfl)
      try simp only [Act.put, List.setIfInBounds_toArray, List.set_cons_zero, List.set_cons_succ, List.getElem_toArray, List.getElem_cons_zero, List.getElem_cons_succ]
      refine wpAnyH_done (by kernel_rfl) ?_ _
      have hbe := Lib.hid hHeld.1.one.below
      clear hHeld
      go_wp2_with fail
      go_ret
      exact ⟨rfl, hbe.out⟩
    · go_enter Try.func4, Try.ntmps4
      go_wp2_with fail
      refine (awake _).mono ?_
      rintro e w1 ⟨rfl, hb1⟩
      have HB1 := Lib.hid hb1; clear hb1
      go_wp2_with fail
      refine (list_any s _).mono ?_
      rintro e w2 ⟨rfl, hb2⟩
      have HB2 := Lib.hid hb2; clear hb2
      go_wp2_with fail
      refine (list_any s _).mono ?_
      rintro e w3 ⟨rfl, hb3⟩
      have HB3 := Lib.hid hb3; clear hb3
      go_wp2_with (first
        | (refine wpList_store_row rfl 24 (.tmp 6) (.tmp 13) rfl w3.heap.size (cellsB s.testBit) rfl rfl 24 (cellsB fun _ => false) ?c1 ?c2 ?c3 (cellsB_one _) ?_)
        | (refine wpList_store_row rfl 24 (.tmp 7) (.tmp 15) rfl (w3.heap.size + 1) (cellsB s.testBit) rfl rfl 24 (cellsB fun _ => false) ?d1 ?d2 ?d3 (cellsB_one _) ?_
           rotate_right 1
           generalize hw : World.setRow (World.setRow _ _ _) _ _ = wr
           have HT : Hid (TwoW w wr w3.heap.size (w3.heap.size + 1) s.testBit s.testBit) := Lib.hid (by rw [← hw]; exact TwoW.make ((HB1.out.trans (HB2.out.mono HB1.out.size)).trans (HB3.out.mono (Nat.le_trans HB1.out.size HB2.out.size))) _ _ _)
           clear hw))
      case c1 => exact heap_alloc2_old _ _ _
      case d1 => exact row_second w3 _ _ _ _
      case c2 => rw [cellsB_size]; exact HSZ.out
      case d2 => rw [cellsB_size]; exact HSZ.out
      case c3 => rw [cellsB_size, cellsB_size]
      case d3 => rw [cellsB_size, cellsB_size]
      have HQ : Hid (TwoW w wr w3.heap.size (w3.heap.size + 1) (withN s n).testBit (withoutN s n).testBit) := Lib.hid (HT.out.turn (with_out s n HX.out) (without_out s n HX.out))
      obtain ⟨L1, e1, l1⟩ := list_of (withN s n).testBit
      obtain ⟨L2, e2, l2⟩ := list_of (withoutN s n).testBit
      have HKS : Hid (TwoW w wr w3.heap.size (w3.heap.size + 1) (withN s n).testBit (withoutN s n).testBit ∧ World.rangeAt wr w3.heap.size 0 L1 ∧ World.rangeAt wr (w3.heap.size + 1) 0 L2) := Lib.hid (HQ.out.ranges e1 e2)
      have hu := Try.underlying24
      have hl1 : (Try.prog.info? 24).map (·.size) = some L1.length := by rw [l1]; exact HSZ.out
      have hl2 : (Try.prog.info? 24).map (·.size) = some L2.length := by rw [l2]; exact HSZ.out
      have hE1 : ∀ W, (Op.equalIn 10000 24 (.agg (cellsB (withN s n).testBit)) (.agg L1.toArray)).run Try.prog W = .ok true W := fun W => by rw [e1]; exact eq_same _ W
      have hE2 : ∀ W, (Op.equalIn 10000 24 (.agg (cellsB (withoutN s n).testBit)) (.agg L2.toArray)).run Try.prog W = .ok true W := fun W => by rw [e2]; exact eq_same _ W
      have hG := guard_bools
      have E1 := Lib.hid e1
      have E2 := Lib.hid e2
      clear e1 e2 l1 l2
      refine wp_region_held_drew (S := fun w' => TwoW w w' w3.heap.size (w3.heap.size + 1) (withN s n).testBit (withoutN s n).testBit ∧ w'.rangeAt w3.heap.size 0 L1 ∧ w'.rangeAt (w3.heap.size + 1) 0 L2) (by kernel_rfl) ?_ (fun hHeld => ?_)
      · exact two_later E1.out E2.out HKS.out (Below.refl _ _).drew
      refine wpAnyH_take (i := 0) (v := ?_) rfl (by kernel_rfl) (by kernel_rfl) (by kernel_rfl) (fun _ _ _ h => h) (Or.inl ⟨by rfl, ?_⟩) hHeld ?_
      rotate_left
      · intro W hW; go_simp; (try with_reducible rfl)
      try simp only [Act.put, List.setIfInBounds_toArray, List.set_cons_zero, List.set_cons_succ, List.getElem_toArray, List.getElem_cons_zero]
      refine wpAnyH_take (i := 1) (v := ?_) rfl (by kernel_rfl) (by kernel_rfl) (by kernel_rfl) (fun _ _ _ h => h) (Or.inl ⟨by rfl, ?_⟩) hHeld ?_
      rotate_left
      · intro W hW; go_simp; (try with_reducible rfl)
      try simp only [Act.put, List.setIfInBounds_toArray, List.set_cons_zero, List.set_cons_succ, List.getElem_toArray, List.getElem_cons_zero, List.getElem_cons_succ]
      refine wpAnyH_take (i := 4) rfl (by kernel_rfl) (by kernel_rfl) (by kernel_rfl) (fun _ _ _ h => h) (yieldsIf_load_mid (by rfl) _ _ rfl _ _ rfl L1 _ (fun W hW => hW.2.1) hu rfl hl1) hHeld ?_
      try simp only [Act.put, List.setIfInBounds_toArray, List.set_cons_zero, List.set_cons_succ, List.getElem_toArray, List.getElem_cons_zero, List.getElem_cons_succ]
      refine wpAnyH_ready (rs := [2]) (by kernel_rfl) (by simp) ?_
      refine AllReadyH.cons rfl (fun K hK => ?_) AllReadyH.nil
      go_simp
      refine (with_any s HS.out _ _).mono ?_; rintro e w' ⟨rfl, rfl⟩; go_wp2_with fail
      refine hK.out _ _ ?_ (fun hHeld => ?_)
      · exact hHeld
      clear hK K
      try simp only [Act.put, List.setIfInBounds_toArray, List.set_cons_zero, List.set_cons_succ, List.getElem_toArray, List.getElem_cons_zero, List.getElem_cons_succ]
      refine wpAnyH_ready (rs := [3]) (by kernel_rfl) (by simp) ?_
      refine AllReadyH.cons rfl (fun K hK => ?_) AllReadyH.nil
      go_simp
      refine (list_any _ _).mono ?_; rintro e w4 ⟨rfl, hb4⟩; go_wp2_with fail
      refine hK.out _ _ ?_ (fun hHeld => ?_)
      · exact two_later E1.out E2.out hHeld hb4
      clear hK K
      try simp only [Act.put, List.setIfInBounds_toArray, List.set_cons_zero, List.set_cons_succ, List.getElem_toArray, List.getElem_cons_zero, List.getElem_cons_succ]
      refine wpAnyH_take (i := 5) (v := ?_) rfl (by kernel_rfl) (by kernel_rfl) (by kernel_rfl) (fun _ _ _ h => h) (Or.inl ⟨by rfl, ?_⟩) hHeld ?_
      rotate_left
      · intro W hW; go_simp; (try with_reducible rfl)
      try simp only [Act.put, List.setIfInBounds_toArray, List.set_cons_zero, List.set_cons_succ, List.getElem_toArray, List.getElem_cons_zero, List.getElem_cons_succ]
      refine wpAnyH_take (i := 6) (v := ?_) rfl (by kernel_rfl) (by kernel_rfl) (by kernel_rfl) (fun _ _ _ h => h) (Or.inl ⟨by rfl, ?_⟩) hHeld ?_
      rotate_left
      · intro W hW; go_simp; (try with_reducible rfl)
      try simp only [Act.put, List.setIfInBounds_toArray, List.set_cons_zero, List.set_cons_succ, List.getElem_toArray, List.getElem_cons_zero, List.getElem_cons_succ]
      refine wpAnyH_take (i := 7) (v := ?_) rfl (by kernel_rfl) (by kernel_rfl) (by kernel_rfl) (fun _ _ _ h => h) (Or.inl ⟨by rfl, ?_⟩) hHeld ?_
      rotate_left
      · intro W hW; go_simp; (try with_reducible rfl)
      try simp only [Act.put, List.setIfInBounds_toArray, List.set_cons_zero, List.set_cons_succ, List.getElem_toArray, List.getElem_cons_zero, List.getElem_cons_succ]
      refine wpAnyH_take (i := 8) (v := ?_) rfl (by kernel_rfl) (by kernel_rfl) (by kernel_rfl) (fun _ _ _ h => h) (Or.inl ⟨by rfl, ?_⟩) hHeld ?_
      rotate_left
      · intro W hW; go_simp; (try with_reducible rfl)
      try simp only [Act.put, List.setIfInBounds_toArray, List.set_cons_zero, List.set_cons_succ, List.getElem_toArray, List.getElem_cons_zero, List.getElem_cons_succ]
      refine wpAnyH_take (i := 11) rfl (by kernel_rfl) (by kernel_rfl) (by kernel_rfl) (fun _ _ _ h => h) (yieldsIf_load_mid (by rfl) _ _ rfl _ _ rfl L2 _ (fun W hW => hW.2.2) hu rfl hl2) hHeld ?_
      try simp only [Act.put, List.setIfInBounds_toArray, List.set_cons_zero, List.set_cons_succ, List.getElem_toArray, List.getElem_cons_zero, List.getElem_cons_succ]
      refine wpAnyH_ready (rs := [9]) (by kernel_rfl) (by simp) ?_
      refine AllReadyH.cons rfl (fun K hK => ?_) AllReadyH.nil
      go_simp
      refine (without_any s HS.out _ _).mono ?_; rintro e w' ⟨rfl, rfl⟩; go_wp2_with fail
      refine hK.out _ _ ?_ (fun hHeld => ?_)
      · exact hHeld
      clear hK K
      try simp only [Act.put, List.setIfInBounds_toArray, List.set_cons_zero, List.set_cons_succ, List.getElem_toArray, List.getElem_cons_zero, List.getElem_cons_succ]
      refine wpAnyH_ready (rs := [10]) (by kernel_rfl) (by simp) ?_
      refine AllReadyH.cons rfl (fun K hK => ?_) AllReadyH.nil
      go_simp
      refine (list_any _ _).mono ?_; rintro e w5 ⟨rfl, hb5⟩; go_wp2_with fail
      refine hK.out _ _ ?_ (fun hHeld => ?_)
      · exact two_later E1.out E2.out hHeld hb5
      clear hK K
      try simp only [Act.put, List.setIfInBounds_toArray, List.set_cons_zero, List.set_cons_succ, List.getElem_toArray, List.getElem_cons_zero, List.getElem_cons_succ]
      refine wpAnyH_take (i := 12) (v := ?_) rfl (by kernel_rfl) (by kernel_rfl) (by kernel_rfl) (fun _ _ _ h => h) (Or.inl ⟨by rfl, ?_⟩) hHeld ?_
      rotate_left
      · intro W hW; go_simp; (try with_reducible rfl)
      try simp only [Act.put, List.setIfInBounds_toArray, List.set_cons_zero, List.set_cons_succ, List.getElem_toArray, List.getElem_cons_zero, List.getElem_cons_succ]
      refine wpAnyH_take (i := 13) (v := ?_) rfl (by kernel_rfl) (by kernel_rfl) (by kernel_rfl) (fun _ _ _ h => h) (Or.inl ⟨by rfl, ?_⟩) hHeld ?_
      rotate_left
      · intro W hW; go_simp; (try with_reducible rfl)
      try simp only [Act.put, List.setIfInBounds_toArray, List.set_cons_zero, List.set_cons_succ, List.getElem_toArray, List.getElem_cons_zero, List.getElem_cons_succ]
      refine wpAnyH_take (i := 14) (v := ?_) rfl (by kernel_rfl) (by kernel_rfl) (by kernel_rfl) (fun _ _ _ h => h) (Or.inl ⟨by rfl, ?_⟩) hHeld ?_
      rotate_left
      · intro W hW; go_simp; (try with_reducible rfl)
      try simp only [Act.put, List.setIfInBounds_toArray, List.set_cons_zero, List.set_cons_succ, List.getElem_toArray, List.getElem_cons_zero, List.getElem_cons_succ]
      refine wpAnyH_take (i := 15) (v := ?_) rfl (by kernel_rfl) (by kernel_rfl) (by kernel_rfl) (fun _ _ _ h => h) (Or.inl ⟨by rfl, ?_⟩) hHeld ?_
      rotate_left
      · intro W hW; go_simp; (try with_reducible rfl)
      try simp only [Act.put, List.setIfInBounds_toArray, List.set_cons_zero, List.set_cons_succ, List.getElem_toArray, List.getElem_cons_zero, List.getElem_cons_succ]
      refine wpAnyH_take (i := 16) (v := ?_) rfl (by kernel_rfl) (by kernel_rfl) (by kernel_rfl) (fun _ _ _ h => h) (Or.inl ⟨by rfl, ?_⟩) hHeld ?_
      rotate_left
      · intro W hW; go_simp; (try with_reducible rfl)
      try simp only [Act.put, List.setIfInBounds_toArray, List.set_cons_zero, List.set_cons_succ, List.getElem_toArray, List.getElem_cons_zero, List.getElem_cons_succ]
      refine wpAnyH_take (i := 18) (v := ?_) rfl (by kernel_rfl) (by kernel_rfl) (by kernel_rfl) (fun _ _ _ h => h) (Or.inl ⟨by rfl, ?_⟩) hHeld ?_
      rotate_left
      · intro W hW; go_simp; (try with_reducible rfl)
      try simp only [Act.put, List.setIfInBounds_toArray, List.set_cons_zero, List.set_cons_succ, List.getElem_toArray, List.getElem_cons_zero, List.getElem_cons_succ]
      refine wpAnyH_ready (rs := [17]) (by kernel_rfl) (by simp) ?_
      refine AllReadyH.cons rfl (fun K hK => ?_) AllReadyH.nil
      go_simp
      refine (has_any s HS.out _ _).mono ?_; rw [HH.out]; rintro e w' ⟨rfl, rfl⟩; go_wp2_with fail
      refine hK.out _ _ ?_ (fun hHeld => ?_)
      · exact hHeld
      clear hK K
      try simp only [Act.put, List.setIfInBounds_toArray, List.set_cons_zero, List.set_cons_succ, List.getElem_toArray, List.getElem_cons_zero, List.getElem_cons_succ]
      refine wpAnyH_take (i := 19) (v := ?_) rfl (by kernel_rfl) (by kernel_rfl) (by kernel_rfl) (fun _ _ _ h => h) (Or.inl ⟨by rfl, ?_⟩) hHeld ?_
      rotate_left
      · intro W hW; go_simp; (try with_reducible rfl)
      try simp only [Act.put, List.setIfInBounds_toArray, List.set_cons_zero, List.set_cons_succ, List.getElem_toArray, List.getElem_cons_zero, List.getElem_cons_succ]
      refine wpAnyH_take (i := 20) (v := ?_) rfl (by kernel_rfl) (by kernel_rfl) (by kernel_rfl) (fun _ _ _ h => h) (Or.inl ⟨by rfl, ?_⟩) hHeld ?_
      rotate_left
      · intro W hW; go_simp; (try with_reducible rfl)
      try simp only [Act.put, List.setIfInBounds_toArray, List.set_cons_zero, List.set_cons_succ, List.getElem_toArray, List.getElem_cons_zero, List.getElem_cons_succ]
      refine wpAnyH_take (i := 21) (v := ?_) rfl (by kernel_rfl) (by kernel_rfl) (by kernel_rfl) (fun _ _ _ h => h) (Or.inl ⟨by rfl, ?_⟩) hHeld ?_
      rotate_left
      · intro W hW; go_simp; (try with_reducible rfl)
      try simp only [Act.put, List.setIfInBounds_toArray, List.set_cons_zero, List.set_cons_succ, List.getElem_toArray, List.getElem_cons_zero, List.getElem_cons_succ]
      refine wpAnyH_done (by kernel_rfl) ?_ _
      have hbe := Lib.hid hHeld.1.one.below
      clear hHeld
      go_wp2_with fail
      go_ret
      exact ⟨rfl, hbe.out⟩

theorem setChanges_walk (s : Nat) (n : Int) (hs : s < 18446744073709551616) (w : World) : Calls Try.prog 4 #[.int .u64 (s : Nat), .int .i64 n] w fun e w' => e = .returned (.bool true) ∧ Below w.heap.size w w' := by
  by_cases hx : 0 ≤ n ∧ n < 64
  · obtain ⟨x, rfl⟩ : ∃ x : Nat, n = (x : Int) := ⟨n.toNat, by omega⟩
    exact setChanges_in s x hs (by omega) w
  · exact setChanges_out s n hs hx w
end Go.Proofs.Ytiinibblfodaaaa
