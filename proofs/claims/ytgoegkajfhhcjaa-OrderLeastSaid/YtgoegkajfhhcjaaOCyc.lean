/- Package order: Cycle. -/
import Derived.Test.YtgoegkajfhhcjaaOSorts
import Derived.Test.YtgoegkajfhhcjaaOWalk
namespace Go.Proofs.Ytgoegkajfhhcjaa
open Go.RowKit

variable {w wa wr w2 : World} {lb N len g : Nat} {l : List Ar} {out o : List Nat} {lf lf2 b : Nat → Bool} {v : Value} {ws : List Int} {n : Int}
theorem index_yes (hr : w.rowIs g 4 N (fun i => .bool (b i))) (hN : N ≤ 1000000) (h : ∃ i, i < N ∧ b i = true) (cap : Nat) :
    Calls Try.prog 22 #[.slice (some ⟨g, 0, none⟩) N cap, .bool true] w fun e w' => w' = w ∧ ∃ i : Nat, i < N ∧ b i = true ∧ e = .returned (.int .i64 (i : Int)) :=
  (index_any hr hN cap).mono fun e w' ⟨hw, h2⟩ => ⟨hw, by
    rcases h2 with h2 | ⟨h2, _⟩
    · exact h2
    · obtain ⟨i, hi, hb⟩ := h
      rw [h2 i hi] at hb
      cases hb⟩
theorem index_no (hr : w.rowIs g 4 N (fun i => .bool (b i))) (hN : N ≤ 1000000) (h : ∀ i, i < N → b i = false) (cap : Nat) :
    Calls Try.prog 22 #[.slice (some ⟨g, 0, none⟩) N cap, .bool true] w fun e w' => w' = w ∧ e = .returned (.int .i64 (-1)) :=
  (index_any hr hN cap).mono fun e w' ⟨hw, h2⟩ => ⟨hw, by
    rcases h2 with ⟨i, hi, hb, _⟩ | ⟨_, h2⟩
    · rw [h i hi] at hb
      cases hb
    · exact h2⟩
/-- Which nodes are left lies in block lb; behind it the row of the others. -/
structure LW (wa wr : World) (lb N : Nat) (lf : Nat → Bool) (v : Value) (ws : List Int) : Prop where
  below : Below wa.heap.size wa wr
  left : wr.rowIs lb 4 N (fun i => .bool (lf i))
  base : wa.heap.size ≤ lb
  row : wr.ownsRow (lb + 1) 3 1 v ws.length (numsV ws)
theorem LW.set_ (h : LW wa wr lb N lf v ws) (t : Nat) (u : Bool) : LW wa (wr.setCell ⟨lb, t, none⟩ (.bool u)) lb N (fun i => if i = t then u else lf i) v ws :=
  ⟨h.below.setCell (p := ⟨lb, t, none⟩) h.base _, (h.left.set t (.bool u)).congr (fun i _ => by by_cases e : i = t <;> simp [e]), h.base, owns_kept h.row ((Mod.refl (fun k => k = lb) wr).setCell (p := ⟨lb, t, none⟩) (.inr rfl) _) (fun k hk e => by have := (World.ownsRow.lt h.row k hk).1; omega)⟩
theorem LW.congr (h : LW wa wr lb N lf v ws) (e : ∀ i, i < N → lf i = lf2 i) : LW wa wr lb N lf2 v ws := ⟨h.below, h.left.congr (fun i hi => by rw [e i hi]), h.base, h.row⟩
/-- Not among the first k. -/
def leftB (o : List Nat) (k i : Nat) : Bool := !(o.take k).contains i
theorem leftB_step {k c : Nat} (hc : o[k]? = some c) (i : Nat) : (if i = c then false else leftB o k i) = leftB o (k + 1) i := by
  unfold leftB
  rw [List.take_add_one, hc]
  by_cases e : i = c
  · subst e; simp
  · rw [if_neg e]; simp [e]
theorem leftB_all {k i : Nat} (hk : o.length ≤ k) : leftB o k i = true ↔ i ∉ o := by
  unfold leftB
  rw [List.take_of_length_le hk]
  simp
theorem nodesV_get {k : Nat} {c : Int} (h : (nodesV o)[k]? = some c) : ∃ i : Nat, c = (i : Int) ∧ o[k]? = some i := by
  unfold nodesV at h
  rw [List.getElem?_map] at h
  cases ho : o[k]? with
  | none => rw [ho] at h; cases h
  | some i => rw [ho] at h; exact ⟨i, by injection h with h; exact h.symm, rfl⟩

set_option maxHeartbeats 1000000 in
theorem ocycle_bad (n : Int) (len cap : Nat) (l : List Ar) (a : Option Addr) (w : World) (hc : checkV n l ≠ 0) (hl : IsArcs w.heap.size w a len l) :
    Calls Try.prog 13 #[.agg #[.int .i64 n, .slice a len cap]] w fun e w' => Below w.heap.size w w' ∧ ∃ a1 c1, e = .returned (.slice a1 0 c1) := by
  have HG := Lib.hid (Box.make (Below.refl _ w) n a len cap)
  have HL := Lib.hid hl; clear hl
  have hcb : (checkV n l != 0) = true := by simpa using hc
  have HCA := Lib.hid (fun (W : World) (h : IsArcs W.heap.size W a len l) => check_any n cap a W h)
  generalize checkV n l = v at *
  clear hc
  go_enter Try.func13, Try.ntmps13
  go_wp2_with (go_at_call 19; refine (HCA.out _ (HG.out.arcsHere HL.out)).mono ?_; rintro e w1 ⟨rfl, hb1⟩; have HG1 := Lib.hid (HG.out.later hb1); clear hb1)
  go_ret
  exact ⟨HG1.out.below, _, _, rfl⟩
set_option maxHeartbeats 4000000 in
set_option maxRecDepth 100000 in
theorem ocycle_nil (hc : checkV ((0 : Nat) : Int) l = 0) (a : Option Addr) (cap : Nat) (w : World) (hl : IsArcs w.heap.size w a len l) :
    Calls Try.prog 13 #[.agg #[.int .i64 ((0 : Nat) : Int), .slice a len cap]] w fun e w' => Below w.heap.size w w' ∧ e = .returned (.slice none 0 0) := by
  have HG := Lib.hid (Box.make (Below.refl _ w) ((0 : Nat) : Int) a len cap)
  have HL := Lib.hid hl; clear hl
  have HC := Lib.hid hc
  have HCK := Lib.hid (check_any ((0 : Nat) : Int) cap a _ (HG.out.arcsHere HL.out))
  rw [hc] at HCK
  clear hc
  have HO : Hid (Whole l 0 []) := Lib.hid ⟨.nil, rfl⟩
  have HREP := Lib.hid (fun (b : Nat) (W : World) => repBoolsO0 true b W)
  have HSRT := Lib.hid (fun (W : World) (h : IsArcs W.heap.size W a len l) => osorted_whole HC.out HO.out a cap W h)
  go_enter Try.func13, Try.ntmps13
  go_wp2_with (first
    | (go_at_call 19; refine HCK.out.mono ?_; rintro e w1 ⟨rfl, hb1⟩; have HG1 := Lib.hid ((HG.out.later hb1).alloc (.cells #[.bool true] 4)); have x0 := HG1.out.c0; have x1 := HG1.out.c1; clear hb1)
    | (go_at_call 21; refine (HREP.out _ _).mono ?_; rintro e w2 ⟨lb, rfl, hb2⟩; have HG2 := Lib.hid (HG1.out.later hb2); have y0 := HG2.out.c0; have y1 := HG2.out.c1; clear hb2)
    | (go_at_call 20; refine (HSRT.out _ (HG2.out.arcsHere HL.out)).mono ?_; rintro e w3 ⟨hb3, va, vc, rfl, hr⟩; have HG3 := Lib.hid (HG2.out.later hb3); clear hb3 hr))
  refine wp_loop_rounds 1 ?_
  rw [rounds_succ]
  go_wp2_with (go_at_call 22; refine (index_none _ _ _).mono ?_; rintro e w4 ⟨rfl, rfl⟩)
  go_ret
  exact ⟨HG3.out.below, rfl⟩
set_option maxHeartbeats 4000000 in
set_option maxRecDepth 100000 in
theorem ocycle_none (h1 : 1 ≤ N) (hc : checkV (N : Int) l = 0) (ho : Whole l N o) (a : Option Addr) (cap : Nat) (w : World) (hl : IsArcs w.heap.size w a len l) :
    Calls Try.prog 13 #[.agg #[.int .i64 (N : Int), .slice a len cap]] w fun e w' => Below w.heap.size w w' ∧ e = .returned (.slice none 0 0) := by
  have HG := Lib.hid (Box.make (Below.refl _ w) (N : Int) a len cap)
  have HL := Lib.hid hl; clear hl
  have HC := Lib.hid hc
  have HCK := Lib.hid (check_any (N : Int) cap a _ (HG.out.arcsHere HL.out))
  rw [hc] at HCK
  obtain ⟨⟨_, hN, _⟩, _⟩ := checkV_zero.1 hc
  have hN2 : N ≤ 1000 := by omega
  clear hc hN
  have HO := Lib.hid ho; clear ho
  go_enter Try.func13, Try.ntmps13
  go_wp2_with (first
    | (go_at_call 19; refine HCK.out.mono ?_; rintro e w1 ⟨rfl, hb1⟩; have HG1 := Lib.hid ((HG.out.later hb1).alloc (.cells #[.bool true] 4)); have x0 := HG1.out.c0; have x1 := HG1.out.c1; have x2 : (w1.alloc (.cells #[.bool true] 4)).cell? ⟨w1.heap.size, 0, none⟩ = some (.bool true) := (by simp); clear hb1)
    | (go_at_call 21; refine (repBoolsO true N _ _ h1 hN2 x2).mono ?_; rintro e w2 ⟨lb, rfl, hrow, hge, hb2⟩; have HG2 := Lib.hid (HG1.out.later hb2); have HROW := Lib.hid hrow; have HGE : Hid (w.heap.size ≤ lb) := Lib.hid (Nat.le_trans HG1.out.below.size hge); have y0 := HG2.out.c0; have y1 := HG2.out.c1; clear hrow hge hb2)
    | (go_at_call 20; refine (osorted_whole HC.out HO.out a cap _ (HG2.out.arcsHere HL.out)).mono ?_; rintro e w3 ⟨hb3, va, vc, rfl, hr⟩; have HG3 := Lib.hid (HG2.out.later hb3); have HW0 : Hid (LW w w3 lb N (leftB o 0) (.slice va N vc) (nodesV o)) := Lib.hid ⟨HG3.out.below, (rowIs_below HROW.out hb3).congr (fun i _ => by simp [leftB]), HGE.out, owns_rebase hr HROW.out.lt⟩; clear hb3 hr))
  clear x0 x1 x2 y0 y1
  go_loopw [17] (fun i wr => ∃ k : Nat, i = .int .i64 k ∧ k ≤ N ∧ Hid (LW w wr lb N (leftB o k) (.slice va N vc) (nodesV o))) (fun i _ => N - (intOf i).toNat)
  case atStart => exact ⟨0, rfl, Nat.zero_le _, HW0⟩
  case round =>
    obtain ⟨k, rfl, hk, HW⟩ := hrel
    clear HW0
    by_cases hlt : k < N
    · have hrow := HW.out.row
      have hnl : (nodesV o).length = N := by rw [nodesV_length]; exact HO.out.2
      obtain ⟨vv, hvv⟩ : ∃ vv, (nodesV o)[k]? = some vv := ⟨_, List.getElem?_eq_getElem (by rw [hnl]; exact hlt)⟩
      obtain ⟨c, rfl, hoc⟩ := nodesV_get hvv
      have hc := HO.out.1.lt c (List.mem_of_getElem? hoc)
      have hc1 : (0 : Int) ≤ (c : Int) := by omega
      have hc2 : (c : Int) < (N : Int) := by omega
      obtain ⟨G, cp, hv2, _, _, hcp, hcm⟩ := owns_some hrow (by omega)
      rw [hnl] at hv2 hcp
      injection hv2 with ea _ ec
      subst ea ec
      unfold maxLen at hcm
      have c2 := nums_cell hrow hvv
      have r0 := HW.out.left.cell hc
      have r1 := HW.out.left.frozen c
      have HN := Lib.hid ((HW.out.set_ c false).congr (fun i _ => leftB_step hoc i))
      generalize leftB o k c = q at r0
      clear hrow hvv hoc hnl
      go_wp2_with fail
      go_roundw
      case rel => exact ⟨k + 1, by go_num, by omega, HN⟩
      case measure => simp [intOf]; omega
    · have HNO : Hid (∀ i, i < N → leftB o k i = false) := Lib.hid (fun i hi => by
        cases hq : leftB o k i with
        | false => rfl
        | true => exact absurd (HO.out.all hi) ((leftB_all (by have := HO.out.2; omega)).1 hq))
      go_wp2_with (go_at_call 22; refine (index_no HW.out.left (by omega) HNO.out _).mono ?_; rintro e w4 ⟨rfl, rfl⟩)
      go_ret
      exact ⟨HW.out.below, rfl⟩
set_option maxHeartbeats 4000000 in
set_option maxRecDepth 100000 in
theorem ocycle_some (hc : checkV (N : Int) l = 0) (ho : Stuck l N o) (a : Option Addr) (cap : Nat) (w : World) (hl : IsArcs w.heap.size w a len l) :
    Calls Try.prog 13 #[.agg #[.int .i64 (N : Int), .slice a len cap]] w fun e w' => Below w.heap.size w w' ∧
      ∃ a1 c1 ws, e = .returned (.slice a1 ws.length c1) ∧ IsInts w'.heap.size w' a1 ws.length ws ∧ ws.length ≤ 1002 ∧ ws ≠ [] ∧ ∃ (i : Nat) (W : Int), joinO l ws (i : Int) 0 = some ((i : Int), W) := by
  have HG := Lib.hid (Box.make (Below.refl _ w) (N : Int) a len cap)
  have HL := Lib.hid hl; clear hl
  have HC := Lib.hid hc
  have HCK := Lib.hid (check_any (N : Int) cap a _ (HG.out.arcsHere HL.out))
  rw [hc] at HCK
  obtain ⟨⟨_, hN, _⟩, _⟩ := checkV_zero.1 hc
  have hN2 : N ≤ 1000 := by omega
  have h1 : 1 ≤ N := by have := ho.2.1; omega
  clear hc hN
  have HO := Lib.hid ho; clear ho
  go_enter Try.func13, Try.ntmps13
  go_wp2_with (first
    | (go_at_call 19; refine HCK.out.mono ?_; rintro e w1 ⟨rfl, hb1⟩; have HG1 := Lib.hid ((HG.out.later hb1).alloc (.cells #[.bool true] 4)); have x0 := HG1.out.c0; have x1 := HG1.out.c1; have x2 : (w1.alloc (.cells #[.bool true] 4)).cell? ⟨w1.heap.size, 0, none⟩ = some (.bool true) := (by simp); clear hb1)
    | (go_at_call 21; refine (repBoolsO true N _ _ h1 hN2 x2).mono ?_; rintro e w2 ⟨lb, rfl, hrow, hge, hb2⟩; have HG2 := Lib.hid (HG1.out.later hb2); have HROW := Lib.hid hrow; have HGE := Lib.hid hge; have HB2 := Lib.hid hb2; have y0 := HG2.out.c0; have y1 := HG2.out.c1; clear hrow hge hb2)
    | (go_at_call 20; refine (osorted_stuck HC.out HO.out a cap _ (HG2.out.arcsHere HL.out)).mono ?_; rintro e w3 ⟨hb3, va, m, vc, o2, rfl, hmN, hmo, hs2, hr⟩; have HG3 := Lib.hid (HG2.out.later hb3); have HW0 : Hid (LW (w1.alloc (.cells #[.bool true] 4)) w3 lb N (leftB o2 0) (.slice va m vc) (nodesV o2)) := Lib.hid ⟨HB2.out.trans (hb3.mono HB2.out.size), (rowIs_below HROW.out hb3).congr (fun i _ => by simp [leftB]), HGE.out, owns_rebase hr HROW.out.lt⟩; have HS2 := Lib.hid hs2; have HMO := Lib.hid hmo; clear hb3 hr hs2 hmo))
  obtain ⟨wa, hwa⟩ : ∃ wa, w1.alloc (.cells #[.bool true] 4) = wa := ⟨_, rfl⟩
  rw [hwa] at HG1 HW0
  clear x0 x1 x2 y0 y1
  go_loopw [17] (fun i wr => ∃ k : Nat, i = .int .i64 k ∧ k ≤ m ∧ Hid (LW wa wr lb N (leftB o2 k) (.slice va m vc) (nodesV o2))) (fun i _ => m - (intOf i).toNat)
  case atStart => exact ⟨0, rfl, Nat.zero_le _, HW0⟩
  case round =>
    obtain ⟨k, rfl, hk, HW⟩ := hrel
    clear HW0
    by_cases hlt : k < m
    · have hrow := HW.out.row
      have hnl : (nodesV o2).length = m := HMO.out.symm
      obtain ⟨vv, hvv⟩ : ∃ vv, (nodesV o2)[k]? = some vv := ⟨_, List.getElem?_eq_getElem (by rw [hnl]; exact hlt)⟩
      obtain ⟨c, rfl, hoc⟩ := nodesV_get hvv
      have hc := HS2.out.1.lt c (List.mem_of_getElem? hoc)
      have hc1 : (0 : Int) ≤ (c : Int) := by omega
      have hc2 : (c : Int) < (N : Int) := by omega
      obtain ⟨G, cp, hv2, _, _, hcp, hcm⟩ := owns_some hrow (by omega)
      rw [hnl] at hv2 hcp
      injection hv2 with ea _ ec
      subst ea ec
      unfold maxLen at hcm
      have c2 := nums_cell hrow hvv
      have r0 := HW.out.left.cell hc
      have r1 := HW.out.left.frozen c
      have HN := Lib.hid ((HW.out.set_ c false).congr (fun i _ => leftB_step hoc i))
      generalize leftB o2 k c = q at r0
      clear hrow hvv hoc hnl
      go_wp2_with fail
      go_roundw
      case rel => exact ⟨k + 1, by go_num, by omega, HN⟩
      case measure => simp [intOf]; omega
    · have hko : o2.length ≤ k := by have := HMO.out; rw [nodesV_length] at this; omega
      have HYES : Hid (∃ i, i < N ∧ leftB o2 k i = true) := Lib.hid (by
        obtain ⟨i, hi, hio⟩ := HS2.out.left_
        exact ⟨i, hi, (leftB_all hko).2 hio⟩)
      have HKO := Lib.hid hko
      have HGW := Lib.hid (HG1.out.later HW.out.below)
      have z0 := HGW.out.c0
      have z1 := HGW.out.c1
      clear hko
      go_wp2_with (first
        | (go_at_call 22; refine (index_yes HW.out.left (by omega) HYES.out _).mono ?_; rintro e w4 ⟨rfl, i, hi, hb, rfl⟩; have hi1 : (0 : Int) ≤ (i : Int) := (by omega); have HIO : Hid (i ∉ o2) := Lib.hid ((leftB_all HKO.out).1 hb); clear hb)
        | (go_at_call 23; refine (walked_any HC.out HS2.out hi HIO.out (fun i _ => leftB_all HKO.out) a cap _ (HGW.out.arcsHere HL.out) HW.out.left).mono ?_; rintro e w5 ⟨hb5, a1, c1, ws, rfl, hws⟩; have HG5 := Lib.hid (HGW.out.later hb5); have HWS := Lib.hid hws; clear hb5 hws))
      go_ret
      exact ⟨HG5.out.below, a1, c1, ws, rfl, HWS.out⟩
/-- Cycle. -/
theorem ocycle_ok (N len cap : Nat) (l : List Ar) (a : Option Addr) (w : World) (hc : checkV (N : Int) l = 0) (hl : IsArcs w.heap.size w a len l) :
    Calls Try.prog 13 #[.agg #[.int .i64 (N : Int), .slice a len cap]] w fun e w' => Below w.heap.size w w' ∧
      ∃ a1 c1 ws, e = .returned (.slice a1 ws.length c1) ∧ IsInts w'.heap.size w' a1 ws.length ws ∧ (∀ out, Whole l N out → ws = []) ∧
        (∀ out, Stuck l N out → ws.length ≤ 1002 ∧ ws ≠ [] ∧ ∃ (i : Nat) (W : Int), joinO l ws (i : Int) 0 = some ((i : Int), W)) := by
  obtain ⟨o, ho⟩ := whole_or_stuck l N
  rcases ho with ho | ho
  · have h := show Calls Try.prog 13 #[.agg #[.int .i64 (N : Int), .slice a len cap]] w fun e w' => Below w.heap.size w w' ∧ e = .returned (.slice none 0 0) by
      by_cases h1 : 1 ≤ N
      · exact ocycle_none h1 hc ho a cap w hl
      · obtain rfl : N = 0 := by omega
        exact ocycle_nil hc a cap w hl
    exact h.mono fun e w' ⟨hb, he⟩ => ⟨hb, none, 0, [], he, ⟨rfl, .inl rfl⟩, fun _ _ => rfl, fun out h2 => (h2.not_whole ho).elim⟩
  · exact (ocycle_some hc ho a cap w hl).mono fun e w' ⟨hb, a1, c1, ws, he, hi, h1, h2, h3⟩ => ⟨hb, a1, c1, ws, he, hi, fun out h => (ho.not_whole h).elim, fun _ _ => ⟨h1, h2, h3⟩⟩
end Go.Proofs.Ytgoegkajfhhcjaa
