/- Package inst: may each number of an instance be? -/
import Derived.Test.YtmnbpnjakbihdaaIChk
namespace Go.Proofs.Ytmnbpnjakbihdaa
open Go.RowKit

variable {w wr : World} {A : InA} {x : Ins} {B n : Nat} {a : Option Addr} {l : List Int}
/-- New rows of one, two, three numbers. -/
theorem nums1 {W : World} {g : Nat} (hg : W.heap.size = g) (a : Int) : IsNums (g + 1) (W.alloc (.cells #[.int .i64 a] 2)) (some ⟨g, 0, none⟩) 1 [a] := by
  subst hg
  refine ⟨rfl, .inr ⟨_, 0, rfl, by omega, fun j v hj => ?_⟩⟩
  match j, hj with
  | 0, hj => simp at hj; subst hj; simp
theorem nums2 {W : World} {g : Nat} (hg : W.heap.size = g) (a b : Int) : IsNums (g + 1) (W.alloc (.cells #[.int .i64 a, .int .i64 b] 2)) (some ⟨g, 0, none⟩) 2 [a, b] := by
  subst hg
  refine ⟨rfl, .inr ⟨_, 0, rfl, by omega, fun j v hj => ?_⟩⟩
  match j, hj with
  | 0, hj => simp at hj; subst hj; simp
  | 1, hj => simp at hj; subst hj; simp
theorem nums3 {W : World} {g : Nat} (hg : W.heap.size = g) (a b c : Int) : IsNums (g + 1) (W.alloc (.cells #[.int .i64 a, .int .i64 b, .int .i64 c] 2)) (some ⟨g, 0, none⟩) 3 [a, b, c] := by
  subst hg
  refine ⟨rfl, .inr ⟨_, 0, rfl, by omega, fun j v hj => ?_⟩⟩
  match j, hj with
  | 0, hj => simp at hj; subst hj; simp
  | 1, hj => simp at hj; subst hj; simp
  | 2, hj => simp at hj; subst hj; simp
theorem cells2r {gb : Nat} {y1 y2 : Value} {T : TypeId} (h : w.heap[gb]? = some (.cells #[y1, y2] T (0, 0))) : w.cell? ⟨gb, 0, none⟩ = some y1 ∧ w.cell? ⟨gb, 1, none⟩ = some y2 := by simp [World.cell?, h]
theorem cells4r {gb : Nat} {y1 y2 y3 y4 : Value} {T : TypeId} (h : w.heap[gb]? = some (.cells #[y1, y2, y3, y4] T (0, 0))) : w.cell? ⟨gb, 0, none⟩ = some y1 ∧ w.cell? ⟨gb, 1, none⟩ = some y2 ∧ w.cell? ⟨gb, 2, none⟩ = some y3 ∧ w.cell? ⟨gb, 3, none⟩ = some y4 := by simp [World.cell?, h]
theorem satB_all (s : Int × Int) : satB s = [s.1, s.2].all (fun v => inB_ v 0) := by simp [satB]
theorem cusB_all (c : Pi) : cusB c = ([c.1].all (fun v => inB_ v 1) && [c.2.1, c.2.2.2].all (fun v => inB_ v 0) && [c.2.2.1].all (fun v => inB_ v c.2.1)) := by
  simp only [cusB, List.all_cons, List.all_nil, Bool.and_true]
  cases inB_ c.1 1 <;> cases inB_ c.2.1 0 <;> cases inB_ c.2.2.1 c.2.1 <;> cases inB_ c.2.2.2 0 <;> rfl
theorem rowB_all {i : Nat} {r : List Int} {v : Int} (h : r[i]? = some v) : rowB i r = (r.all (fun v => inB_ v 0) && decide (v = 0)) := by
  rw [Bool.eq_iff_iff, rowB, allR_true, Bool.and_eq_true, List.all_eq_true, decide_eq_true_eq]
  constructor
  · intro e
    refine ⟨fun u hu => ?_, ?_⟩
    · obtain ⟨j, hj⟩ := List.getElem?_of_mem hu
      have := e j (List.getElem?_eq_some_iff.1 hj).1
      rw [getD_ofN hj, elB, Bool.and_eq_true] at this
      exact this.1
    · have := e i (List.getElem?_eq_some_iff.1 h).1
      rw [getD_ofN h, elB, Bool.and_eq_true, Bool.or_eq_true, decide_eq_true_eq, decide_eq_true_eq] at this
      rcases this.2 with h9 | h9
      · exact absurd rfl h9
      · exact h9
  · rintro ⟨e, rfl⟩ j hj
    have hu : r[j]? = some (r[j]'hj) := List.getElem?_eq_getElem hj
    rw [getD_ofN hu, elB, e _ (List.mem_of_getElem? hu), Bool.true_and]
    by_cases h9 : i = j
    · subst h9
      rw [hu] at h
      injection h with h
      simp [h]
    · simp [h9]
/-- The instance's numbers that stand alone. -/
def Ins.three (x : Ins) : List Int := [x.en, x.tr, x.br]
theorem good_parts (x : Ins) : x.good = true ↔ x.three.all (fun v => inB_ v 0) = true ∧ (∀ i, i < x.sats.length → satB (x.sats.getD i (0, 0)) = true) ∧ (∀ i, i < x.cus.length → cusB (x.cus.getD i (0, 0, 0, 0)) = true) ∧ ∀ i, i < 2 → rowsB (x.pick i) = true := by
  have e : (∀ i, i < 2 → rowsB (x.pick i) = true) ↔ rowsB x.cost = true ∧ rowsB x.time = true := by
    constructor
    · intro h
      exact ⟨h 0 (by omega), h 1 (by omega)⟩
    · rintro ⟨h0, h1⟩ i hi
      obtain rfl | rfl : i = 0 ∨ i = 1 := by omega
      · exact h0
      · exact h1
  rw [e]
  simp only [Ins.good, Ins.three, Bool.and_eq_true, List.all_cons, List.all_nil, allR_true, and_true]
  constructor
  · rintro ⟨⟨⟨⟨⟨⟨a, b⟩, c⟩, d⟩, e⟩, f⟩, g⟩
    exact ⟨⟨c, d, e⟩, f, g, a, b⟩
  · rintro ⟨⟨c, d, e⟩, f, g, a, b⟩
    exact ⟨⟨⟨⟨⟨⟨a, b⟩, c⟩, d⟩, e⟩, f⟩, g⟩
theorem good_three (h : x.three.all (fun v => inB_ v 0) = false) : x.good = false := by
  apply Bool.eq_false_iff.2
  intro e
  rw [((good_parts x).1 e).1] at h
  cases h
theorem good_sat {k : Nat} {s : Int × Int} (hs : x.sats[k]? = some s) (h : satB s = false) : x.good = false := by
  apply Bool.eq_false_iff.2
  intro e
  have := ((good_parts x).1 e).2.1 k (List.getElem?_eq_some_iff.1 hs).1
  rw [getD_ofN hs, h] at this
  cases this
theorem good_cus {k : Nat} {s : Pi} (hs : x.cus[k]? = some s) (h : cusB s = false) : x.good = false := by
  apply Bool.eq_false_iff.2
  intro e
  have := ((good_parts x).1 e).2.2.1 k (List.getElem?_eq_some_iff.1 hs).1
  rw [getD_ofN hs, h] at this
  cases this
theorem good_row {i k : Nat} {L : List (List Int)} {r : List Int} (hi : i < 2) (hL : x.pick i = L) (hr : L[k]? = some r) (h : rowB k r = false) : x.good = false := by
  apply Bool.eq_false_iff.2
  intro e
  have := ((good_parts x).1 e).2.2.2 i hi
  rw [hL, rowsB, allR_true] at this
  have := this k (List.getElem?_eq_some_iff.1 hr).1
  rw [getD_ofN hr, h] at this
  cases this
/-- What lies before a loop over satellites, customers, rows. -/
def satTo (x : Ins) (k : Nat) : Prop := ∀ i, i < k → satB (x.sats.getD i (0, 0)) = true
def cusToB (x : Ins) (k : Nat) : Prop := ∀ i, i < k → cusB (x.cus.getD i (0, 0, 0, 0)) = true
def rowTo (L : List (List Int)) (k : Nat) : Prop := ∀ i, i < k → rowB i (L.getD i []) = true
theorem satTo_next {k : Nat} {s : Int × Int} (h : satTo x k) (hs : x.sats[k]? = some s) (e : satB s = true) : satTo x (k + 1) := fun i hi => by
  by_cases e2 : i = k
  · subst e2; rw [getD_ofN hs]; exact e
  · exact h i (by omega)
theorem cusTo_next {k : Nat} {s : Pi} (h : cusToB x k) (hs : x.cus[k]? = some s) (e : cusB s = true) : cusToB x (k + 1) := fun i hi => by
  by_cases e2 : i = k
  · subst e2; rw [getD_ofN hs]; exact e
  · exact h i (by omega)
theorem rowTo_next {k : Nat} {L : List (List Int)} {r : List Int} (h : rowTo L k) (hs : L[k]? = some r) (e : rowB k r = true) : rowTo L (k + 1) := fun i hi => by
  by_cases e2 : i = k
  · subst e2; rw [getD_ofN hs]; exact e
  · exact h i (by omega)
theorem rowTo_all {L : List (List Int)} (h : rowTo L L.length) : rowsB L = true := by
  unfold rowsB
  rw [allR_true]
  exact h
theorem size_rows {N : Nat} (h : x.size = true) (hN : x.nodes = N) {i : Nat} (hi : i < 2) : (x.pick i).length = N ∧ ∀ (k : Nat) (r : List Int), (x.pick i)[k]? = some r → r.length = N := by
  rw [size_pick, hN, Bool.and_eq_true] at h
  have : sqB N (x.pick i) = true := by
    obtain rfl | rfl : i = 0 ∨ i = 1 := by omega
    · exact h.1
    · exact h.2
  unfold sqB at this
  rw [Bool.and_eq_true, decide_eq_true_eq, allR_true] at this
  refine ⟨this.1, fun k r hr => ?_⟩
  have := this.2 k (List.getElem?_eq_some_iff.1 hr).1
  rw [getD_ofN hr] at this
  simpa [lenB] using this
theorem below2 (W : World) (o1 o2 : Obj) : Below W.heap.size W ((W.alloc o1).alloc o2) := ((Below.refl _ W).alloc (Nat.le_refl _) _).alloc (by simp) _
theorem below1 (W : World) (o1 : Obj) : Below W.heap.size W (W.alloc o1) := (Below.refl _ W).alloc (Nat.le_refl _) _
set_option maxHeartbeats 4000000 in
set_option maxRecDepth 100000 in
theorem ranged_any (A : InA) (x : Ins) (w : World) (hi : IsIns w.heap.size w A x) (hz : x.size = true) (hs : x.sats.length + x.cus.length ≤ 1000) (b : Bool) (hb : x.good = b) :
    Calls Try.prog 59 #[.agg (insC A x)] w fun e w' => e = .returned (.bool b) ∧ Below w.heap.size w w' := by
  have HG := Lib.hid (XBox.make (Below.refl _ w) A x)
  have HI := Lib.hid hi
  have HB := Lib.hid hb
  obtain ⟨N, hN⟩ : ∃ N, x.nodes = N := ⟨_, rfl⟩
  have HSR : Hid (∀ i, i < 2 → (x.pick i).length = N ∧ ∀ (k : Nat) (r : List Int), (x.pick i)[k]? = some r → r.length = N) := Lib.hid (fun i hi => size_rows hz hN hi)
  have hNL : N ≤ 1001 := by rw [← hN]; unfold Ins.nodes; omega
  clear hi hb hz hN
  have hsz : (w.alloc (.cells (insC A x) 37)).heap.size = w.heap.size + 1 := by simp
  go_enter Try.func59, Try.ntmps59
  cases hq : x.three.all (fun v => inB_ v 0) with
  | false =>
    have HE := Lib.hid (HB.out.symm.trans (good_three hq))
    unfold Ins.three at hq
    go_wp2_with fail
    go_at_call 70
    refine (within_any 0 [x.en, x.tr, x.br] _ _ _ false _ (nums3 (by simp) _ _ _) (by omega) hq).mono ?_
    rintro e w2 ⟨rfl, hw2⟩
    have HW2 := Lib.hid (HG.out.below.trans ((below1 _ (.cells #[.int .i64 x.en, .int .i64 x.tr, .int .i64 x.br] 2)).mono HG.out.below.size))
    rw [← hw2] at HW2
    clear hw2
    go_wp2_with fail
    go_ret
    exact ⟨ret_boolC HE.out.symm, HW2.out⟩
  | true =>
    have HQ := Lib.hid hq
    unfold Ins.three at hq
    go_wp2_with fail
    go_at_call 70
    refine (within_any 0 [x.en, x.tr, x.br] _ _ _ true _ (nums3 (by simp) _ _ _) (by omega) hq).mono ?_
    rintro e w2 ⟨rfl, hw2⟩
    have HX2 := Lib.hid (HG.out.later (below1 _ (.cells #[.int .i64 x.en, .int .i64 x.tr, .int .i64 x.br] 2)))
    rw [← hw2] at HX2
    clear hw2 hq hsz
    obtain ⟨_, _, _, _, _, k5, k6, _, _⟩ := HX2.out.cells
    go_wp2_with fail
    clear k5 k6
    have HS0 : Hid (satTo x 0) := Lib.hid (fun j hj => by omega)
    have HXS := HX2
    go_loopw [25] (fun iv wr => ∃ i : Nat, iv = .int .i64 (i : Int) ∧ i ≤ x.sats.length ∧ Hid (XBox w wr w.heap.size A x) ∧ Hid (satTo x i)) (fun iv _ => x.sats.length - (intOf iv).toNat)
    case atStart => exact ⟨0, rfl, Nat.zero_le _, HXS, HS0⟩
    case round =>
      obtain ⟨i, rfl, hi, HX, HS⟩ := hrel
      clear HS0 HXS HX2 HG
      by_cases hlt : i < x.sats.length
      · obtain ⟨b0, off, ⟨y1, y2⟩, hca, hb0, hy, p0, p1⟩ := (HI.out.sats.later HX.out.below).at_ hlt
        simp only at p0 p1
        have HY := Lib.hid hy
        rw [hca]
        clear hy hca
        have HX0 : Hid (XBox w (wr.alloc (.cells #[.int .i64 y1, .int .i64 y2] 80)) w.heap.size A x) := Lib.hid (HX.out.later (below1 _ _))
        have hz0 : (wr.alloc (.cells #[.int .i64 y1, .int .i64 y2] 80)).heap.size = wr.heap.size + 1 := by simp
        cases hq : [y1, y2].all (fun v => inB_ v 0) with
        | false =>
          have HE := Lib.hid (HB.out.symm.trans (good_sat HY.out (by rw [satB_all]; exact hq)))
          go_wp2_with fail
          go_at_call 70
          refine (within_any 0 [y1, y2] _ _ _ false _ (nums2 (by simp) _ _) (by omega) hq).mono ?_
          rintro e w3 ⟨rfl, hw3⟩
          have HX3 := Lib.hid (HX0.out.later (below1 _ (.cells #[.int .i64 y1, .int .i64 y2] 2)))
          rw [← hw3] at HX3
          clear hw3
          go_wp2_with fail
          go_ret
          exact ⟨ret_boolC HE.out.symm, HX3.out.below⟩
        | true =>
          have HT := Lib.hid (satTo_next HS.out HY.out (by rw [satB_all]; exact hq))
          go_wp2_with fail
          go_at_call 70
          refine (within_any 0 [y1, y2] _ _ _ true _ (nums2 (by simp) _ _) (by omega) hq).mono ?_
          rintro e w3 ⟨rfl, hw3⟩
          have HX3 := Lib.hid (HX0.out.later (below1 _ (.cells #[.int .i64 y1, .int .i64 y2] 2)))
          rw [← hw3] at HX3
          clear hw3 hq
          go_wp2_with fail
          go_roundw
          case rel => exact ⟨i + 1, by go_num, by omega, HX3, HT⟩
          case measure => simp [intOf]; omega
      · obtain rfl : i = x.sats.length := by omega
        have HSS := HS
        clear HS
        obtain ⟨_, _, _, _, _, k5, k6, _, _⟩ := HX.out.cells
        go_wp2_with fail
        clear k5 k6
        have HC0 : Hid (cusToB x 0) := Lib.hid (fun j hj => by omega)
        have HXS := HX
        go_loopw [40] (fun iv wr => ∃ i : Nat, iv = .int .i64 (i : Int) ∧ i ≤ x.cus.length ∧ Hid (XBox w wr w.heap.size A x) ∧ Hid (cusToB x i)) (fun iv _ => x.cus.length - (intOf iv).toNat)
        case atStart => exact ⟨0, rfl, Nat.zero_le _, HXS, HC0⟩
        case round =>
          obtain ⟨i, rfl, hi, HX, HC⟩ := hrel
          clear HC0 HXS
          by_cases hlt2 : i < x.cus.length
          · obtain ⟨b0, off, ⟨y1, y2, y3, y4⟩, hca, hb0, hy, p0, p1, p2, p3⟩ := (HI.out.cus.later HX.out.below).at_ hlt2
            simp only at p0 p1 p2 p3
            have HY := Lib.hid hy
            rw [hca]
            clear hy hca
            have HX0 : Hid (XBox w (wr.alloc (.cells #[.int .i64 y1, .int .i64 y2, .int .i64 y3, .int .i64 y4] 68)) w.heap.size A x) := Lib.hid (HX.out.later (below1 _ _))
            have HP0 : Hid ((wr.alloc (.cells #[.int .i64 y1, .int .i64 y2, .int .i64 y3, .int .i64 y4] 68)).heap[wr.heap.size]? = some (.cells #[.int .i64 y1, .int .i64 y2, .int .i64 y3, .int .i64 y4] 68 (0, 0))) := Lib.hid (heap_alloc_new _ _)
            obtain ⟨gb, hgb⟩ : ∃ b, wr.heap.size = b := ⟨_, rfl⟩
            have hz0 : (wr.alloc (.cells #[.int .i64 y1, .int .i64 y2, .int .i64 y3, .int .i64 y4] 68)).heap.size = gb + 1 := by simp [hgb]
            rw [hgb] at HP0
            obtain ⟨v0, hv0⟩ : ∃ v0, wr.alloc (.cells #[.int .i64 y1, .int .i64 y2, .int .i64 y3, .int .i64 y4] 68) = v0 := ⟨_, rfl⟩
            rw [hv0] at HX0 HP0 hz0
            obtain ⟨q0, q1, q2, q3⟩ := cells4r HP0.out
            cases hq1 : [y1].all (fun v => inB_ v 1) with
            | false =>
              have HE := Lib.hid (HB.out.symm.trans (good_cus HY.out (by rw [cusB_all]; simp only [hq1, Bool.false_and])))
              go_wp2_with fail
              go_at_call 70
              refine (within_any 1 [y1] _ _ _ false _ (nums1 (by first | rfl | exact hz0 | simp) _) (by omega) hq1).mono ?_
              rintro e v1 ⟨rfl, hv1⟩
              have HX1 : Hid (XBox w v1 w.heap.size A x) := Lib.hid (by rw [hv1]; exact HX0.out.later (below1 _ _))
              have HP1 : Hid (v1.heap[gb]? = some (.cells #[.int .i64 y1, .int .i64 y2, .int .i64 y3, .int .i64 y4] 68 (0, 0))) := Lib.hid (by rw [hv1]; exact ((below1 _ _).block gb (Array.getElem?_eq_some_iff.1 HP0.out).1).trans HP0.out)
              clear hv1 hz0 hv0
              try clear q0 q1 q2 q3
              obtain ⟨q0, q1, q2, q3⟩ := cells4r HP1.out
              go_wp2_with fail
              go_ret
              exact ⟨ret_boolC HE.out.symm, HX1.out.below⟩
            | true =>
              cases hq2 : [y2, y4].all (fun v => inB_ v 0) with
              | false =>
                have HE := Lib.hid (HB.out.symm.trans (good_cus HY.out (by rw [cusB_all]; simp only [hq1, hq2, Bool.and_false, Bool.false_and])))
                go_wp2_with fail
                go_at_call 70
                refine (within_any 1 [y1] _ _ _ true _ (nums1 (by first | rfl | exact hz0 | simp) _) (by omega) hq1).mono ?_
                rintro e v1 ⟨rfl, hv1⟩
                have HX1 : Hid (XBox w v1 w.heap.size A x) := Lib.hid (by rw [hv1]; exact HX0.out.later (below1 _ _))
                have HP1 : Hid (v1.heap[gb]? = some (.cells #[.int .i64 y1, .int .i64 y2, .int .i64 y3, .int .i64 y4] 68 (0, 0))) := Lib.hid (by rw [hv1]; exact ((below1 _ _).block gb (Array.getElem?_eq_some_iff.1 HP0.out).1).trans HP0.out)
                clear hv1 hz0 hv0
                try clear q0 q1 q2 q3
                obtain ⟨q0, q1, q2, q3⟩ := cells4r HP1.out
                go_wp2_with fail
                go_at_call 70
                refine (within_any 0 [y2, y4] _ _ _ false _ (nums2 (by first | rfl | exact hz0 | simp) _ _) (by omega) hq2).mono ?_
                rintro e v2 ⟨rfl, hv2⟩
                have HX2 : Hid (XBox w v2 w.heap.size A x) := Lib.hid (by rw [hv2]; exact HX1.out.later (below1 _ _))
                have HP2 : Hid (v2.heap[gb]? = some (.cells #[.int .i64 y1, .int .i64 y2, .int .i64 y3, .int .i64 y4] 68 (0, 0))) := Lib.hid (by rw [hv2]; exact ((below1 _ _).block gb (Array.getElem?_eq_some_iff.1 HP1.out).1).trans HP1.out)
                clear hv2
                try clear q0 q1 q2 q3
                obtain ⟨q0, q1, q2, q3⟩ := cells4r HP2.out
                go_wp2_with fail
                go_ret
                exact ⟨ret_boolC HE.out.symm, HX2.out.below⟩
              | true =>
                cases hq3 : [y3].all (fun v => inB_ v y2) with
                | false =>
                  have HE := Lib.hid (HB.out.symm.trans (good_cus HY.out (by rw [cusB_all]; simp only [hq1, hq2, hq3, Bool.and_false])))
                  go_wp2_with fail
                  go_at_call 70
                  refine (within_any 1 [y1] _ _ _ true _ (nums1 (by first | rfl | exact hz0 | simp) _) (by omega) hq1).mono ?_
                  rintro e v1 ⟨rfl, hv1⟩
                  have HX1 : Hid (XBox w v1 w.heap.size A x) := Lib.hid (by rw [hv1]; exact HX0.out.later (below1 _ _))
                  have HP1 : Hid (v1.heap[gb]? = some (.cells #[.int .i64 y1, .int .i64 y2, .int .i64 y3, .int .i64 y4] 68 (0, 0))) := Lib.hid (by rw [hv1]; exact ((below1 _ _).block gb (Array.getElem?_eq_some_iff.1 HP0.out).1).trans HP0.out)
                  clear hv1 hz0 hv0
                  try clear q0 q1 q2 q3
                  obtain ⟨q0, q1, q2, q3⟩ := cells4r HP1.out
                  go_wp2_with fail
                  go_at_call 70
                  refine (within_any 0 [y2, y4] _ _ _ true _ (nums2 (by first | rfl | exact hz0 | simp) _ _) (by omega) hq2).mono ?_
                  rintro e v2 ⟨rfl, hv2⟩
                  have HX2 : Hid (XBox w v2 w.heap.size A x) := Lib.hid (by rw [hv2]; exact HX1.out.later (below1 _ _))
                  have HP2 : Hid (v2.heap[gb]? = some (.cells #[.int .i64 y1, .int .i64 y2, .int .i64 y3, .int .i64 y4] 68 (0, 0))) := Lib.hid (by rw [hv2]; exact ((below1 _ _).block gb (Array.getElem?_eq_some_iff.1 HP1.out).1).trans HP1.out)
                  clear hv2
                  try clear q0 q1 q2 q3
                  obtain ⟨q0, q1, q2, q3⟩ := cells4r HP2.out
                  go_wp2_with fail
                  go_at_call 70
                  refine (within_any y2 [y3] _ _ _ false _ (nums1 (by first | rfl | exact hz0 | simp) _) (by omega) hq3).mono ?_
                  rintro e v3 ⟨rfl, hv3⟩
                  have HX3 : Hid (XBox w v3 w.heap.size A x) := Lib.hid (by rw [hv3]; exact HX2.out.later (below1 _ _))
                  have HP3 : Hid (v3.heap[gb]? = some (.cells #[.int .i64 y1, .int .i64 y2, .int .i64 y3, .int .i64 y4] 68 (0, 0))) := Lib.hid (by rw [hv3]; exact ((below1 _ _).block gb (Array.getElem?_eq_some_iff.1 HP2.out).1).trans HP2.out)
                  clear hv3
                  try clear q0 q1 q2 q3
                  obtain ⟨q0, q1, q2, q3⟩ := cells4r HP3.out
                  go_wp2_with fail
                  go_ret
                  exact ⟨ret_boolC HE.out.symm, HX3.out.below⟩
                | true =>
                  have HT := Lib.hid (cusTo_next HC.out HY.out (by rw [cusB_all]; simp only [hq1, hq2, hq3, Bool.and_true]))
                  go_wp2_with fail
                  go_at_call 70
                  refine (within_any 1 [y1] _ _ _ true _ (nums1 (by first | rfl | exact hz0 | simp) _) (by omega) hq1).mono ?_
                  rintro e v1 ⟨rfl, hv1⟩
                  have HX1 : Hid (XBox w v1 w.heap.size A x) := Lib.hid (by rw [hv1]; exact HX0.out.later (below1 _ _))
                  have HP1 : Hid (v1.heap[gb]? = some (.cells #[.int .i64 y1, .int .i64 y2, .int .i64 y3, .int .i64 y4] 68 (0, 0))) := Lib.hid (by rw [hv1]; exact ((below1 _ _).block gb (Array.getElem?_eq_some_iff.1 HP0.out).1).trans HP0.out)
                  clear hv1 hz0 hv0
                  try clear q0 q1 q2 q3
                  obtain ⟨q0, q1, q2, q3⟩ := cells4r HP1.out
                  go_wp2_with fail
                  go_at_call 70
                  refine (within_any 0 [y2, y4] _ _ _ true _ (nums2 (by first | rfl | exact hz0 | simp) _ _) (by omega) hq2).mono ?_
                  rintro e v2 ⟨rfl, hv2⟩
                  have HX2 : Hid (XBox w v2 w.heap.size A x) := Lib.hid (by rw [hv2]; exact HX1.out.later (below1 _ _))
                  have HP2 : Hid (v2.heap[gb]? = some (.cells #[.int .i64 y1, .int .i64 y2, .int .i64 y3, .int .i64 y4] 68 (0, 0))) := Lib.hid (by rw [hv2]; exact ((below1 _ _).block gb (Array.getElem?_eq_some_iff.1 HP1.out).1).trans HP1.out)
                  clear hv2
                  try clear q0 q1 q2 q3
                  obtain ⟨q0, q1, q2, q3⟩ := cells4r HP2.out
                  go_wp2_with fail
                  go_at_call 70
                  refine (within_any y2 [y3] _ _ _ true _ (nums1 (by first | rfl | exact hz0 | simp) _) (by omega) hq3).mono ?_
                  rintro e v3 ⟨rfl, hv3⟩
                  have HX3 : Hid (XBox w v3 w.heap.size A x) := Lib.hid (by rw [hv3]; exact HX2.out.later (below1 _ _))
                  have HP3 : Hid (v3.heap[gb]? = some (.cells #[.int .i64 y1, .int .i64 y2, .int .i64 y3, .int .i64 y4] 68 (0, 0))) := Lib.hid (by rw [hv3]; exact ((below1 _ _).block gb (Array.getElem?_eq_some_iff.1 HP2.out).1).trans HP2.out)
                  clear hv3
                  try clear q0 q1 q2 q3
                  obtain ⟨q0, q1, q2, q3⟩ := cells4r HP3.out
                  clear hq1 hq2 hq3
                  go_wp2_with fail
                  go_roundw
                  case rel => exact ⟨i + 1, by go_num, by omega, HX3, HT⟩
                  case measure => simp [intOf]; omega
          · obtain rfl : i = x.cus.length := by omega
            have HCC := HC
            clear HC
            obtain ⟨k0, k1, k2, k3, k4, k5, k6, k7, k8⟩ := HX.out.cells
            go_wp2_with (go_at_call 69; refine (matrices_any A x _).mono ?_; rintro e w5 ⟨rfl, hb5⟩; have HG5 := Lib.hid (HX.out.below.trans (hb5.mono HX.out.below.size)); clear hb5)
            clear k0 k1 k2 k3 k4 k5 k6 k7 k8
            have HM0 : Hid (∀ j, j < 0 → rowsB (x.pick j) = true) := Lib.hid (fun j hj => by omega)
            have HIP : Hid (∀ i, IsRows w.heap.size w5 (A.pick i) (x.pick i).length (x.pick i)) := Lib.hid (fun i => (HI.out.later HG5.out).rows i)
            clear HI HX
            go_loop [70] (fun iv => ∃ i : Nat, iv = .int .i64 (i : Int) ∧ i ≤ 2 ∧ Hid (∀ j, j < i → rowsB (x.pick j) = true)) (fun iv => 2 - (intOf iv).toNat)
            case atStart => exact ⟨0, rfl, Nat.zero_le _, HM0⟩
            case round =>
              obtain ⟨i, rfl, hi2, HM⟩ := hrel
              clear HM0
              by_cases hl2 : i < 2
              · have hx := index_two A x hl2
                have HRI := Lib.hid (HIP.out i)
                have hsr := HSR.out i hl2
                obtain ⟨L, hL⟩ : ∃ L, x.pick i = L := ⟨_, rfl⟩
                have HLE := Lib.hid hL
                rw [hL] at hx HRI hsr
                have HLN := Lib.hid hsr.1
                have hpl : L.length ≤ 1001 := by have := hsr.1; omega
                have HRL := Lib.hid hsr.2
                clear hL hsr
                generalize A.pick i = pa at hx HRI
                generalize A.cap i = pc at hx
                go_wp2_with fail
                have HT0 : Hid (rowTo L 0) := Lib.hid (fun j hj => by omega)
                go_loop [75] (fun kv => ∃ k : Nat, kv = .int .i64 (k : Int) ∧ k ≤ L.length ∧ Hid (rowTo L k)) (fun kv => L.length - (intOf kv).toNat)
                case atStart => exact ⟨0, rfl, Nat.zero_le _, HT0⟩
                case round =>
                  obtain ⟨k, rfl, hk, HT⟩ := hrel
                  clear HT0
                  by_cases hlk : k < L.length
                  · obtain ⟨b0, off, r, ra, rc, rfl, hb0, hr, hrl, h1, hnr⟩ := HRI.out.at_ hlk
                    have HRR := Lib.hid hr
                    have hkr : k < r.length := by have := HRL.out k r hr; have := HLN.out; omega
                    have hr1 : r.length ≤ 1001 := by have := HRL.out k r hr; omega
                    have HNR := Lib.hid hnr
                    obtain ⟨b1, o1, v, hra, hv, q1⟩ := hnr.at_ (k := k) hkr
                    have HVV := Lib.hid hv
                    clear hr hnr hv
                    subst hra
                    cases hq : r.all (fun v => inB_ v 0) with
                    | false =>
                      have HE := Lib.hid (HB.out.symm.trans (good_row hl2 HLE.out HRR.out (by rw [rowB_all HVV.out, hq]; rfl)))
                      go_wp2_with fail
                      go_at_call 70
                      refine (within_any 0 r _ _ _ false _ HNR.out (by omega) hq).mono ?_
                      rintro e w6 ⟨rfl, rfl⟩
                      go_wp2_with fail
                      go_ret
                      exact ⟨ret_boolC HE.out.symm, HG5.out⟩
                    | true =>
                      by_cases hv0 : v = 0
                      · subst hv0
                        have HT2 := Lib.hid (rowTo_next HT.out HRR.out (by rw [rowB_all HVV.out, hq]; rfl))
                        go_wp2_with fail
                        go_at_call 70
                        refine (within_any 0 r _ _ _ true _ HNR.out (by omega) hq).mono ?_
                        rintro e w6 ⟨rfl, rfl⟩
                        clear hq
                        go_wp2_with fail
                        go_round
                        case rel => exact ⟨k + 1, by go_num, by omega, HT2⟩
                        case measure => simp [intOf]; omega
                      · have HE := Lib.hid (HB.out.symm.trans (good_row hl2 HLE.out HRR.out (by rw [rowB_all HVV.out, hq, decide_eq_false hv0]; rfl)))
                        have d0 : (v != 0) = true := by simpa using hv0
                        go_wp2_with fail
                        go_at_call 70
                        refine (within_any 0 r _ _ _ true _ HNR.out (by omega) hq).mono ?_
                        rintro e w6 ⟨rfl, rfl⟩
                        clear hq
                        go_wp2_with fail
                        go_ret
                        exact ⟨ret_boolC HE.out.symm, HG5.out⟩
                  · obtain rfl : k = L.length := by omega
                    have HM2 : Hid (∀ j, j < i + 1 → rowsB (x.pick j) = true) := Lib.hid (fun j hj => by
                      by_cases e : j = i
                      · subst e; rw [HLE.out]; exact rowTo_all HT.out
                      · exact HM.out j (by omega))
                    go_wp2_with fail
                    go_round
                    case rel => exact ⟨i + 1, by go_num, by omega, HM2⟩
                    case measure => simp [intOf]; omega
              · obtain rfl : i = 2 := by omega
                have HE := Lib.hid (HB.out.symm.trans ((good_parts x).2 ⟨HQ.out, HSS.out, HCC.out, HM.out⟩))
                go_wp2_with fail
                go_ret
                exact ⟨ret_boolC HE.out.symm, HG5.out⟩
set_option maxHeartbeats 1000000 in
/-- Of any instance that a caller can hand. -/
theorem check_wide (A : InA) (x : Ins) (w : World) (hi : IsIns w.heap.size w A x) (hl3 : x.cost.length ≤ 9223372036854775807) (hl4 : x.time.length ≤ 9223372036854775807) :
    Calls Try.prog 28 #[.agg (insC A x)] w fun e w' => e = .returned (.int .i64 (instErr x)) ∧ Below w.heap.size w w' := by
  have HG := Lib.hid (XBox.make (Below.refl _ w) A x)
  have HI := Lib.hid hi
  clear hi
  cases hc : x.count with
  | false =>
    have HE : Hid (instErr x = 9) := Lib.hid (by simp [instErr, hc])
    go_enter Try.func28, Try.ntmps28
    go_wp2_with (first | (go_at_call 57; refine (counted_any A x _ _ hc).mono ?_; rintro e w2 ⟨rfl, hb2⟩; have HG2 := Lib.hid (HG.out.later hb2); obtain ⟨k0, k1, k2, k3, k4, k5, k6, k7, k8⟩ := HG2.out.cells; have HI2 := Lib.hid (HG2.out.pipesHere HI.out); clear hb2))
    go_ret
    exact ⟨by rw [HE.out]; rfl, HG2.out.below⟩
  | true =>
    have hll : x.sats.length ≤ 12 ∧ x.cus.length ≤ 48 := by
      simp only [Ins.count, Bool.and_eq_true, decide_eq_true_eq] at hc
      omega
    obtain ⟨hl1, hl2⟩ := hll
    cases hz : x.size with
    | false =>
      have HE : Hid (instErr x = 4) := Lib.hid (by simp [instErr, hc, hz])
      go_enter Try.func28, Try.ntmps28
      go_wp2_with (first | (go_at_call 57; refine (counted_any A x _ _ hc).mono ?_; rintro e w2 ⟨rfl, hb2⟩; have HG2 := Lib.hid (HG.out.later hb2); obtain ⟨k0, k1, k2, k3, k4, k5, k6, k7, k8⟩ := HG2.out.cells; have HI2 := Lib.hid (HG2.out.pipesHere HI.out); clear hb2) | (go_at_call 58; refine (sized_any A x _ HI2.out (by omega) (by omega) (by omega) _ hz).mono ?_; rintro e w3 ⟨rfl, hb3⟩; clear k0 k1 k2 k3 k4 k5 k6 k7 k8; have HG3 := Lib.hid (HG2.out.later hb3); obtain ⟨k0, k1, k2, k3, k4, k5, k6, k7, k8⟩ := HG3.out.cells; have HI3 := Lib.hid (HG3.out.pipesHere HI.out); clear hb3))
      go_ret
      exact ⟨by rw [HE.out]; rfl, HG3.out.below⟩
    | true =>
      cases hg : x.good with
      | false =>
        have HE : Hid (instErr x = 2) := Lib.hid (by simp [instErr, hc, hz, hg])
        go_enter Try.func28, Try.ntmps28
        go_wp2_with (first | (go_at_call 57; refine (counted_any A x _ _ hc).mono ?_; rintro e w2 ⟨rfl, hb2⟩; have HG2 := Lib.hid (HG.out.later hb2); obtain ⟨k0, k1, k2, k3, k4, k5, k6, k7, k8⟩ := HG2.out.cells; have HI2 := Lib.hid (HG2.out.pipesHere HI.out); clear hb2) | (go_at_call 58; refine (sized_any A x _ HI2.out (by omega) (by omega) (by omega) _ hz).mono ?_; rintro e w3 ⟨rfl, hb3⟩; clear k0 k1 k2 k3 k4 k5 k6 k7 k8; have HG3 := Lib.hid (HG2.out.later hb3); obtain ⟨k0, k1, k2, k3, k4, k5, k6, k7, k8⟩ := HG3.out.cells; have HI3 := Lib.hid (HG3.out.pipesHere HI.out); clear hb3) | (go_at_call 59; refine (ranged_any A x _ HI3.out hz (by omega) _ hg).mono ?_; rintro e w4 ⟨rfl, hb4⟩; have HG4 := Lib.hid (HG3.out.later hb4); clear hb4))
        go_ret
        exact ⟨by rw [HE.out]; rfl, HG4.out.below⟩
      | true =>
        have HE : Hid (instErr x = 0) := Lib.hid (by simp [instErr, hc, hz, hg])
        go_enter Try.func28, Try.ntmps28
        go_wp2_with (first | (go_at_call 57; refine (counted_any A x _ _ hc).mono ?_; rintro e w2 ⟨rfl, hb2⟩; have HG2 := Lib.hid (HG.out.later hb2); obtain ⟨k0, k1, k2, k3, k4, k5, k6, k7, k8⟩ := HG2.out.cells; have HI2 := Lib.hid (HG2.out.pipesHere HI.out); clear hb2) | (go_at_call 58; refine (sized_any A x _ HI2.out (by omega) (by omega) (by omega) _ hz).mono ?_; rintro e w3 ⟨rfl, hb3⟩; clear k0 k1 k2 k3 k4 k5 k6 k7 k8; have HG3 := Lib.hid (HG2.out.later hb3); obtain ⟨k0, k1, k2, k3, k4, k5, k6, k7, k8⟩ := HG3.out.cells; have HI3 := Lib.hid (HG3.out.pipesHere HI.out); clear hb3) | (go_at_call 59; refine (ranged_any A x _ HI3.out hz (by omega) _ hg).mono ?_; rintro e w4 ⟨rfl, hb4⟩; have HG4 := Lib.hid (HG3.out.later hb4); clear hb4))
        go_ret
        exact ⟨by rw [HE.out]; rfl, HG4.out.below⟩
theorem check_any (A : InA) (x : Ins) (w : World) (hi : IsIns w.heap.size w A x) (hl : x.light = true) :
    Calls Try.prog 28 #[.agg (insC A x)] w fun e w' => e = .returned (.int .i64 (instErr x)) ∧ Below w.heap.size w w' := by
  have hll : x.sats.length ≤ 40 ∧ x.cus.length ≤ 60 ∧ x.cost.length ≤ 70 ∧ x.time.length ≤ 70 := by
    simp only [Ins.light, Bool.and_eq_true, decide_eq_true_eq] at hl
    omega
  exact check_wide A x w hi (by omega) (by omega)
end Go.Proofs.Ytmnbpnjakbihdaa
