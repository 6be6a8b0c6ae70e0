/- The walk of the law on the first one of some floats. -/
import Derived.Test.YtepnhddileadmaaDoorRealLaws
import Derived.Test.YtepnhddileadmaaDoorFirst
import Derived.Test.YtepnhddileadmaaDoorRow
import Derived.Test.YtepnhddileadmaaDoorNats
import Derived.ProofKit
import Derived.OpenShut
import Derived.OwnWalk
import Derived.Laws.AppendOwn
import Derived.Laws.OwnMore
namespace Go.Proofs.YtepnhddileadmaaDoor
open Go.RowKit

theorem floatInfo : (Tryd.prog.info? 26).map (fun i => (i.zero, i.size, i.bytes)) = some (some (.float .f64 0), 1, 8) := by kernel_rfl
theorem float_run_eq (x : Nat) (w : World) : Calls Tryd.prog 13 #[.int .u64 (x : Int)] w fun e w' => e = .returned (.float .f64 x) ∧ w' = w :=
  (float_of x w).mono fun _ _ h => ⟨h.1, h.2.symm⟩
theorem rplace_eq (b : Nat) (hb : b < 18446744073709551616) (w : World) : Calls Tryd.prog 16 #[.float .f64 b] w fun e w' => e = .returned (.int .i64 (placeV b)) ∧ w' = w :=
  (rplace_any b hb w).mono fun _ _ h => ⟨h.1, h.2.symm⟩

def words (l : List Nat) (k : Nat) : List Value := (l.take k).map (Value.float .f64)
theorem words_succ (l : List Nat) (k : Nat) (h : k < l.length) : words l k ++ [.float .f64 (l.getD k 0)] = words l (k + 1) := by
  unfold words
  rw [List.take_succ_eq_append_getElem h, List.map_append]
  simp [List.getD_eq_getElem?_getD, List.getElem?_eq_getElem h]
theorem words_at (l : List Nat) (k j : Nat) (h : k ≤ l.length) (hj : j < k) : (words l k)[j]? = some (.float .f64 (l.getD j 0)) := by
  unfold words
  have h2 : j < l.length := by omega
  simp [List.getD_eq_getElem?_getD, hj, List.getElem?_eq_getElem h2]

/-- What the law owns after k rounds. -/
structure Owns (w wr : World) (l : List Nat) (k : Nat) (v : Value) : Prop where
  own : wr.ownsRow w.heap.size 26 1 v k (words l k)
  below : Below w.heap.size w wr
theorem owns_next {w wr w1 : World} {l : List Nat} {k : Nat} {v v' : Value} (h : Owns w wr l k v) (hk : k < l.length) {o : Obj} (h1 : w1.ownsRow w.heap.size 26 1 v' (k + 1) (words l k ++ [.float .f64 (l.getD k 0)])) (h2 : (wr.alloc o).grownBy w1 v.ownBlock) : Owns w w1 l (k + 1) v' := by
  refine ⟨by rw [← words_succ l k hk]; exact h1, ?_⟩
  exact (h.below.alloc h.below.size o).grown h2 (by simp; have := h.below.size; omega) fun g hg => (h.own.lt g hg).1
theorem owns_shape {w wr : World} {l : List Nat} {k : Nat} {v : Value} (h : Owns w wr l (k + 1) v) (hk : k < l.length) : ∃ g cap, v = .slice (some ⟨g, 0, none⟩) (k + 1) cap ∧ ∀ j, j < k + 1 → wr.cell? ⟨g, j, none⟩ = some (.float .f64 (l.getD j 0)) := by
  have ho := h.own
  rcases ho.2 with ⟨_, h0⟩ | ⟨g, cap, cur, rfl, _⟩
  · omega
  · exact ⟨g, cap, rfl, fun j hj => by rw [ho.cellAt j (by omega), words_at l (k + 1) j (by omega) hj]⟩
theorem owns_drewN {w wr : World} {l : List Nat} {k : Nat} {v : Value} (h : Owns w wr l k v) (n : Nat) : Owns w (wr.drewN n) l k v :=
  ⟨h.own, h.below.os, h.below.tape, h.below.output, h.below.size, h.below.block⟩

theorem realFirsts_long (a : Option Addr) (len cap : Nat) (h : 40 < len) (hbig : len ≤ maxLen) (w : World) (ht : Tab w) : Calls Tryd.prog 5 #[.slice a len cap] w (Holds w) := by
  unfold maxLen at hbig
  have h1 : (40 : Int) < (len : Int) := by omega
  go_enter Tryd.func5, Tryd.ntmps5
  go_wp2_with fail
  refine (awake _ ht (pow_room ht)).mono ?_
  rintro e w1 ⟨rfl, hb1⟩
  go_wp2_with fail
  go_ret
  exact ⟨rfl, hb1⟩
theorem realFirsts_none (a : Option Addr) (cap : Nat) (w : World) (ht : Tab w) : Calls Tryd.prog 5 #[.slice a 0 cap] w (Holds w) := by
  go_enter Tryd.func5, Tryd.ntmps5
  go_wp2_with fail
  refine (awake _ ht (pow_room ht)).mono ?_
  rintro e w1 ⟨rfl, hb1⟩
  go_wp2_with fail
  refine wp_loop_rounds 1 ?_
  rw [rounds_succ]
  go_wp2_with fail
  refine (first_none _ _ _).mono ?_
  rintro e w' ⟨rfl, rfl⟩
  go_wp2_with fail
  go_ret
  exact ⟨rfl, hb1⟩
set_option maxHeartbeats 1000000 in
theorem realFirsts_some (b off len cap : Nat) (ns : List Nat) (w : World) (hblk : b < w.heap.size) (hz : len = ns.length) (h0 : 1 ≤ len) (hbig : len ≤ 40) (hc : ∀ j, j < len → w.cell? ⟨b, off + j, none⟩ = some (.int .u64 ((ns.getD j 0 : Nat) : Int))) (hw : ∀ j, j < len → ns.getD j 0 < 18446744073709551616) (ht : Tab w) :
    Calls Tryd.prog 5 #[.slice (some ⟨b, off, none⟩) len cap] w (Holds w) := by
  obtain ⟨i0, hi, hz0, hz1, hz2⟩ := info_parts floatInfo
  have HI := Lib.hid hi; clear hi
  have HZ0 := Lib.hid hz0; clear hz0
  have HZ1 := Lib.hid hz1; clear hz1
  have HZ2 := Lib.hid hz2; clear hz2
  have HW := Lib.hid hw; clear hw
  have HZ := Lib.hid hz; clear hz
  have HC := Lib.hid hc; clear hc
  go_enter Tryd.func5, Tryd.ntmps5
  go_wp2_with fail
  refine (awake _ ht (pow_room ht)).mono ?_
  rintro e w1 ⟨rfl, hb1⟩
  go_wp2_with fail
  go_loopw [3, 4, 14] (fun v f i wr => ∃ k : Nat, k ≤ len ∧ i = .int .i64 k ∧ f = .int .i64 (firstAt ns k) ∧ Owns w wr ns k v) (fun _ _ i _ => len - (intOf i).toNat)
  case atStart => exact ⟨0, Nat.zero_le _, rfl, rfl, World.ownsRow_nil _ _ _ _, hb1⟩
  case round =>
    obtain ⟨k, hk, rfl, rfl, O⟩ := hrel
    have HO := Lib.hid O; clear O
    by_cases hlt : k < len
    · have hx := Lib.hid (HW.out k hlt)
      have hkl : Hid (k < ns.length) := Lib.hid (by rw [← HZ.out]; exact hlt)
      by_cases k0 : k = 0
      · subst k0
        have hcell : wr.cell? ⟨b, off, none⟩ = some (.int .u64 ((ns.getD 0 0 : Nat) : Int)) := (HO.out.below.cell (by exact hblk)).trans (HC.out 0 hlt)
        have e0 : firstAt ns 0 = -1 := rfl
        have e1 : Hid (firstAt ns (0 + 1) = 0) := Lib.hid (firstAt_one ns)
        rw [e0]
        clear e0
        obtain ⟨x, ex⟩ : ∃ x, x = ns.getD 0 0 := ⟨_, rfl⟩
        rw [← ex] at hcell hx
        have EX := Lib.hid ex; clear ex
        go_wp2_with fail
        refine (float_of _ _).mono ?_
        rintro e w' ⟨rfl, rfl⟩
        go_wp2_with (at_builtin; refine wpList_append_own _ rfl _ _ 34 rfl w.heap.size 26 i0 (.float .f64 0) 1 8 Tryd.underlying34 HI.out HZ0.out HZ1.out HZ2.out rfl (by decide) _ _ _ rfl (HO.out.own.alloc _) ⟨wr.heap.size, 0, none⟩ 1 1 [.float .f64 x] rfl rfl ?c1 ?c2 ?c3 ?c4 ?c5 ?_)
        case c1 =>
          intro j u hj
          match j, hj with
          | 0, hj => simp at hj; subst hj; simp [Addr.add]
        case c2 => intro u hu; simp at hu; subst hu; rfl
        case c3 => unfold maxLen; omega
        case c4 => omega
        case c5 => exact Nat.le_trans HO.out.below.size (by simp)
        intro v' w2 hown' hgrow _
        have O2 := Lib.hid (owns_next HO.out hkl.out (by rw [← EX.out]; exact hown') hgrow)
        clear hown' hgrow
        go_wp2_with fail
        go_quiet (fail)
        go_wp2_with fail
        go_roundw
        case rel => exact ⟨0 + 1, by omega, by go_num, by rw [e1.out], owns_drewN O2.out _⟩
        case measure => simp [intOf]; omega
      · obtain ⟨m, em, hm⟩ := firstAt_pos ns k (by omega)
        have hcell := (HO.out.below.cell (p := ⟨b, off + k, none⟩) (by exact hblk)).trans (HC.out k hlt)
        have hy := Lib.hid (HW.out m (by omega))
        have hd0 : decide ((m : Int) < 0) = false := decide_eq_false (by omega)
        rw [em]
        cases hless : lessB (ns.getD k 0) (ns.getD m 0) with
        | true =>
          have e1 := Lib.hid (firstAt_yes ns k m em hless)
          have hd : decide (placeV (ns.getD k 0) < placeV (ns.getD m 0)) = true := hless
          clear em hless
          obtain ⟨x, ex⟩ : ∃ x, x = ns.getD k 0 := ⟨_, rfl⟩
          rw [← ex] at hcell hx hd
          have EX := Lib.hid ex; clear ex
          obtain ⟨y, ey⟩ : ∃ y, y = ns.getD m 0 := ⟨_, rfl⟩
          rw [← ey] at hy hd
          have EY := Lib.hid ey; clear ey
          go_wp2_with fail
          refine (float_of _ _).mono ?_
          rintro e w' ⟨rfl, rfl⟩
          go_wp2_with (at_builtin; refine wpList_append_own _ rfl _ _ 34 rfl w.heap.size 26 i0 (.float .f64 0) 1 8 Tryd.underlying34 HI.out HZ0.out HZ1.out HZ2.out rfl (by decide) _ _ _ rfl (HO.out.own.alloc _) ⟨wr.heap.size, 0, none⟩ 1 1 [.float .f64 x] rfl rfl ?c1 ?c2 ?c3 ?c4 ?c5 ?_)
          case c1 =>
            intro j u hj
            match j, hj with
            | 0, hj => simp at hj; subst hj; simp [Addr.add]
          case c2 => intro u hu; simp at hu; subst hu; rfl
          case c3 => unfold maxLen; omega
          case c4 => omega
          case c5 => exact Nat.le_trans HO.out.below.size (by simp)
          intro v' w2 hown' hgrow _
          have O2 := owns_next HO.out hkl.out (by rw [← EX.out]; exact hown') hgrow
          clear hown' hgrow
          obtain ⟨g, c', rfl, hcs⟩ := owns_shape O2 hkl.out
          have hcm : w2.cell? ⟨g, m, none⟩ = some (.float .f64 y) := by rw [EY.out]; exact hcs m (by omega)
          have HO2 := Lib.hid O2
          clear hcs O2
          go_wp2_with fail
          go_quiet ((first
            | (go_at_call 13; exact Calls.quiet_of_same (float_run_eq _ _))
            | (go_at_call 16; exact Calls.quiet_of_same (rplace_eq _ (by first | exact hx.out | exact hy.out) _))))
          go_wp2_with fail
          go_roundw
          case rel => exact ⟨k + 1, by omega, by go_num, by rw [e1.out], owns_drewN HO2.out _⟩
          case measure => simp [intOf]; omega
        | false =>
          have e1 := Lib.hid (firstAt_no ns k m em hless)
          have hd : decide (placeV (ns.getD k 0) < placeV (ns.getD m 0)) = false := hless
          clear em hless
          obtain ⟨x, ex⟩ : ∃ x, x = ns.getD k 0 := ⟨_, rfl⟩
          rw [← ex] at hcell hx hd
          have EX := Lib.hid ex; clear ex
          obtain ⟨y, ey⟩ : ∃ y, y = ns.getD m 0 := ⟨_, rfl⟩
          rw [← ey] at hy hd
          have EY := Lib.hid ey; clear ey
          go_wp2_with fail
          refine (float_of _ _).mono ?_
          rintro e w' ⟨rfl, rfl⟩
          go_wp2_with (at_builtin; refine wpList_append_own _ rfl _ _ 34 rfl w.heap.size 26 i0 (.float .f64 0) 1 8 Tryd.underlying34 HI.out HZ0.out HZ1.out HZ2.out rfl (by decide) _ _ _ rfl (HO.out.own.alloc _) ⟨wr.heap.size, 0, none⟩ 1 1 [.float .f64 x] rfl rfl ?c1 ?c2 ?c3 ?c4 ?c5 ?_)
          case c1 =>
            intro j u hj
            match j, hj with
            | 0, hj => simp at hj; subst hj; simp [Addr.add]
          case c2 => intro u hu; simp at hu; subst hu; rfl
          case c3 => unfold maxLen; omega
          case c4 => omega
          case c5 => exact Nat.le_trans HO.out.below.size (by simp)
          intro v' w2 hown' hgrow _
          have O2 := owns_next HO.out hkl.out (by rw [← EX.out]; exact hown') hgrow
          clear hown' hgrow
          obtain ⟨g, c', rfl, hcs⟩ := owns_shape O2 hkl.out
          have hcm : w2.cell? ⟨g, m, none⟩ = some (.float .f64 y) := by rw [EY.out]; exact hcs m (by omega)
          have HO2 := Lib.hid O2
          clear hcs O2
          go_wp2_with fail
          go_quiet ((first
            | (go_at_call 13; exact Calls.quiet_of_same (float_run_eq _ _))
            | (go_at_call 16; exact Calls.quiet_of_same (rplace_eq _ (by first | exact hx.out | exact hy.out) _))))
          go_wp2_with fail
          go_roundw
          case rel => exact ⟨k + 1, by omega, by go_num, by rw [e1.out], owns_drewN HO2.out _⟩
          case measure => simp [intOf]; omega

    · obtain rfl : k = len := by omega
      obtain ⟨p, ep⟩ : ∃ p, k = p + 1 := ⟨k - 1, by omega⟩
      have hO := HO.out
      rw [ep] at hO
      obtain ⟨g, c', rfl, hcs⟩ := owns_shape hO (by have := HZ.out; omega)
      rw [← ep]
      have HO2 := Lib.hid hO
      have HCS : Hid (∀ j, j < k → wr.cell? ⟨g, 0 + j, none⟩ = some (.float .f64 (ns.getD j 0))) := Lib.hid (fun j hj => by rw [Nat.zero_add]; exact hcs j (by omega))
      have hb2 := Lib.hid HO.out.below
      clear hcs hO ep
      go_wp2_with fail
      refine (first_any g 0 k c' ns _ (by omega) HCS.out HW.out).mono ?_
      rintro e w' ⟨rfl, rfl⟩
      go_wp2_with fail
      go_ret
      exact ⟨ret_bool (by simp), hb2.out⟩

theorem realFirsts_row (a : Option Addr) (len cap : Nat) (zs : List Int) (w : World) (h : IsRow .u64 w a len cap zs) (ht : Tab w) : Calls Tryd.prog 5 #[.slice a len cap] w (Holds w) := by
  rcases h with ⟨rfl, rfl, rfl, rfl⟩ | ⟨x, rfl, hl, hm, hz, hcell, hwz⟩
  · exact realFirsts_none _ _ w ht
  · by_cases h0 : len = 0
    · subst h0; exact realFirsts_none _ _ w ht
    · by_cases h40 : 40 < len
      · exact realFirsts_long _ _ _ h40 (by omega) w ht
      · obtain ⟨b, off, rfl, hc⟩ := ints_at hcell (by omega)
        have hblk : b < w.heap.size := World.block_lt_of_cell? w _ (hc 0 (by omega))
        have hnat : ∀ j, j < len → ∃ m : Nat, zs.getD j 0 = (m : Int) ∧ m < 18446744073709551616 := fun j hj =>
          nat_of_u64 (hwz _ (by rw [List.getD_eq_getElem?_getD, List.getElem?_eq_getElem (by omega)]; simp))
        have hget : ∀ j, j < len → ((zs.take len).map Int.toNat).getD j 0 = (zs.getD j 0).toNat := fun j hj => by
          simp [List.getD_eq_getElem?_getD, hj, List.getElem?_eq_getElem (show j < zs.length by omega)]
        refine realFirsts_some b off len cap ((zs.take len).map Int.toNat) w hblk (by simp; omega) (by omega) (by omega) (fun j hj => ?_) (fun j hj => ?_) ht
        · rw [hc j (by omega), hget j hj]
          obtain ⟨m, em, _⟩ := hnat j hj
          rw [em]; rfl
        · rw [hget j hj]
          obtain ⟨m, em, hm2⟩ := hnat j hj
          rw [em]; exact hm2
end Go.Proofs.YtepnhddileadmaaDoor
