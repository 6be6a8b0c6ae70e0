/- An instance of the call's own: a satellite more, a number more in a row, fewer rows. -/
import Derived.Test.YtnnddmojcaicbaaDoorISet
namespace Go.Proofs.YtnnddmojcaicbaaDoor
open Go.RowKit

variable {w wr w2 w4 : World} {A : InA} {x : Ins} {B N C D b i k j g sz n gx g4 cap : Nat} {VK VT V : Nat → Nat} {LK LT L : Nat → Nat → Int} {v : Value} {z : Int} {p : Int × Int} {S : Nat → Prop}
theorem OwnSq.mod (h : OwnSq B w v n N V L) (hm : Mod S w w2) (h1 : ∀ k, v.ownBlock = some k → ¬ S k) (h2 : ∀ j, j < n → ¬ S (V j)) : OwnSq B w2 v n N V L :=
  ⟨owns_kept h.outer hm h1, fun k hk => ⟨(h.row k hk).1.of_block (hm.block _ (h.row k hk).1.lt (h2 k hk)), (h.row k hk).2⟩, h.inj, h.out⟩
/-- One satellite more. -/
theorem Fresh.push_sat (h : Fresh wr gx B A x N C D VK VT LK LT) (hown : w4.ownsRow B 46 2 (.slice (some ⟨g4, 0, none⟩) (x.sats.length + 1) cap) (x.sats.length + 1) (flatS x.sats ++ encS p)) (hgrow : wr.grownBy w4 (Value.slice A.sa x.sats.length A.sc).ownBlock) :
    Fin (w4.setCell ⟨gx, 5, none⟩ (.slice (some ⟨g4, 0, none⟩) (x.sats.length + 1) cap)) gx { A with sa := some ⟨g4, 0, none⟩, sc := cap } { x with sats := x.sats ++ [p] } ∧ w4.cell? ⟨gx, 5, none⟩ = some (.slice A.sa x.sats.length A.sc) ∧ w4.frozen? ⟨gx, 5, none⟩ = false := by
  have hM : Mod (fun k => (Value.slice A.sa x.sats.length A.sc).ownBlock = some k) wr w4 := (Mod.refl _ _).grown hgrow (fun k hk => .inr hk)
  have hb4 : w4.heap[gx]? = some (.cells (insC A x) 38 (0, 0)) := (hM.block gx (Array.getElem?_eq_some_iff.1 h.box).1 (fun e => by
    obtain ⟨cur, hc⟩ := own_block h.own.sats e
    exact blk_types hc h.box (by decide) rfl)).trans h.box
  have hcost := (h.own.cost.mod hM (fun k hk hs => by
    obtain ⟨c1, q1⟩ := own_block h.own.cost.outer hk
    obtain ⟨c2, q2⟩ := own_block h.own.sats hs
    exact blk_types q1 q2 (by decide) rfl) (fun j hj hs => by
    obtain ⟨c1, q1⟩ := rowIs_block (h.own.cost.row j hj).1
    obtain ⟨c2, q2⟩ := own_block h.own.sats hs
    exact blk_types q1 q2 (by decide) rfl)).keep hb4 (by decide) (by decide) 5 (.slice (some ⟨g4, 0, none⟩) (x.sats.length + 1) cap)
  have htime := (h.own.time.mod hM (fun k hk hs => by
    obtain ⟨c1, q1⟩ := own_block h.own.time.outer hk
    obtain ⟨c2, q2⟩ := own_block h.own.sats hs
    exact blk_types q1 q2 (by decide) rfl) (fun j hj hs => by
    obtain ⟨c1, q1⟩ := rowIs_block (h.own.time.row j hj).1
    obtain ⟨c2, q2⟩ := own_block h.own.sats hs
    exact blk_types q1 q2 (by decide) rfl)).keep hb4 (by decide) (by decide) 5 (.slice (some ⟨g4, 0, none⟩) (x.sats.length + 1) cap)
  have hk := hcost.is_ h.own.nl
  have ht := htime.is_ h.own.nl
  rw [show sqL N LK = x.cost from h.own.ck.symm] at hk
  rw [show sqL N LT = x.time from h.own.tk.symm] at ht
  refine ⟨⟨?_, ⟨?_, ?_, hk, ht⟩, ?_⟩, by simp [World.cell?, hb4], by simp [World.frozen?, hb4]⟩
  · rw [heap_setCell_same _ _ _ _ _ _ hb4]
    simp [insC]
  · have hs := own_keep hown hb4 (by decide) 5 (.slice (some ⟨g4, 0, none⟩) (x.sats.length + 1) cap)
    rw [← flatS_snoc] at hs
    have := owns_sats hs (by simp)
    simpa using this
  · exact owns_cus (own_keep (owns_kept h.own.cus hM (fun k hk hs => by
      obtain ⟨c1, q1⟩ := own_block h.own.cus hk
      obtain ⟨c2, q2⟩ := own_block h.own.sats hs
      exact blk_types q1 q2 (by decide) rfl)) hb4 (by decide) 5 _) rfl
  · exact h.light_ (by have := h.ns; simp; omega) h.nc (by show x.cost.length ≤ 10; rw [h.klen.1]; exact h.nn) (by show x.time.length ≤ 10; rw [h.klen.2]; exact h.nn) h.rowsK h.rowsT
theorem IsRows.take_ {a : Option Addr} {len : Nat} {L : List (List Int)} (h : IsRows B w a len L) (hi : i ≤ len) : IsRows B w a i (L.take i) := by
  obtain ⟨h1, h2⟩ := h
  subst h1
  refine ⟨by rw [List.length_take]; omega, ?_⟩
  rcases h2 with h2 | ⟨b, off, e, hb, hr⟩
  · exact .inl (by omega)
  · refine .inr ⟨b, off, e, hb, fun k r hk => ?_⟩
    rw [List.getElem?_take] at hk
    split at hk
    · exact hr k r hk
    · cases hk
/-- Fewer rows. -/
theorem Fresh.cut_time (h : Fresh wr gx B A x N C D VK VT LK LT) (hi : i ≤ N) : Fin (wr.setCell ⟨gx, 8, none⟩ (.slice A.ta i A.tc)) gx A { x with time := x.time.take i } := by
  have ho := (h.own.keep h.box (by decide) (by decide) (by decide) (by decide) 8 (.slice A.ta i A.tc)).is_
  have hl := h.klen.2
  have hil : i ≤ x.time.length := by omega
  have e : (x.time.take i).length = i := by rw [List.length_take]; omega
  have ht := ho.time.take_ hil
  refine ⟨?_, ⟨ho.sats, ho.cus, ho.cost, by rw [show ({ x with time := x.time.take i } : Ins).time.length = i from e]; exact ht⟩, ?_⟩
  · rw [heap_setCell_same _ _ _ _ _ _ h.box]
    simp [insC, hil]
  · exact h.light_ (by have := h.ns; show x.sats.length ≤ 4; omega) h.nc (by show x.cost.length ≤ 10; rw [h.klen.1]; exact h.nn) (by show (x.time.take i).length ≤ 10; have := h.nn; omega) h.rowsK (fun r hr => h.rowsT r (List.mem_of_mem_take hr))
/-- A row as one that may grow. -/
theorem rowIs_owns {f : Nat → Int} (h : w.rowIs g 2 N (fun k => .int .i64 (f k))) (hB : B ≤ g) (hN : N ≤ 1000) : w.ownsRow B 2 1 (.slice (some ⟨g, 0, none⟩) N N) N (numsV ((List.range N).map f)) := by
  obtain ⟨c, hb, hn, hc⟩ := h
  refine ⟨by simp [numsV], .inr ⟨g, N, c, rfl, hB, hb, Nat.le_refl _, by unfold maxLen; omega, by omega, ?_⟩⟩
  apply List.ext_getElem?
  intro j
  rw [List.getElem?_take, Nat.mul_one]
  by_cases hj : j < N
  · rw [if_pos hj]
    have := hc j hj
    simp only [Array.getElem?_toList, this]
    simp [numsV, hj]
  · rw [if_neg hj, List.getElem?_eq_none (by simp [numsV]; omega)]
/-- A number more in row i of the costs. -/
theorem Fresh.push_row (h : Fresh wr gx B A x N C D VK VT LK LT) (hi : i < N) {gk : Nat} (hka : A.ka = some ⟨gk, 0, none⟩) (hown : w4.ownsRow C 2 1 (.slice (some ⟨g4, 0, none⟩) (N + 1) cap) (N + 1) (numsV ((List.range N).map (LK i)) ++ [.int .i64 z])) (hgrow : wr.grownBy w4 (some (VK i))) :
    Fin (w4.setCell ⟨gk, i, none⟩ (.slice (some ⟨g4, 0, none⟩) (N + 1) cap)) gx A { x with cost := (sqL N LK).set i ((List.range N).map (LK i) ++ [z]) } ∧ (∃ u, w4.cell? ⟨gk, i, none⟩ = some u) ∧ w4.frozen? ⟨gk, i, none⟩ = false ∧ w4.cell? ⟨gx, 7, none⟩ = some (.slice A.ka x.cost.length A.kc) := by
  have hM : Mod (fun k => k = VK i) wr w4 := (Mod.refl _ _).grown hgrow (fun k hk => .inr (by injection hk with hk; exact hk.symm))
  obtain ⟨ci, hci⟩ := rowIs_block (h.own.cost.row i hi).1
  have hb4 : w4.heap[gx]? = some (.cells (insC A x) 38 (0, 0)) := (hM.block gx (Array.getElem?_eq_some_iff.1 h.box).1 (fun e => blk_types h.box hci (by decide) e)).trans h.box
  have ho := owns_kept h.own.cost.outer hM (fun k hk e => by
    obtain ⟨c1, q1⟩ := own_block h.own.cost.outer hk
    exact blk_types q1 hci (by decide) e)
  rw [hka] at ho
  obtain ⟨co, hco⟩ := own_block ho (g := gk) rfl
  have hst := World.ownsRow.stored ho i (.slice (some ⟨g4, 0, none⟩) (N + 1) cap)
  have hnl := h.own.nl
  have hrowi := ownsRow_setCell_other (a := ⟨gk, i, none⟩) hown (fun e => by
    obtain ⟨c1, q1⟩ := own_block hown e
    exact blk_types q1 hco (by decide) rfl) (.slice (some ⟨g4, 0, none⟩) (N + 1) cap)
  have hs4 := own_keep (owns_kept h.own.sats hM (fun k hk e => by
    obtain ⟨c1, q1⟩ := own_block h.own.sats hk
    exact blk_types q1 hci (by decide) e)) hco (by decide) i (.slice (some ⟨g4, 0, none⟩) (N + 1) cap)
  have hc4 := own_keep (owns_kept h.own.cus hM (fun k hk e => by
    obtain ⟨c1, q1⟩ := own_block h.own.cus hk
    exact blk_types q1 hci (by decide) e)) hco (by decide) i (.slice (some ⟨g4, 0, none⟩) (N + 1) cap)
  have hgk : gk < D := h.own.kb _ (.inl (by rw [hka]; rfl))
  have ht4 := ((h.own.time.mod hM (fun k hk e => by
    obtain ⟨c1, q1⟩ := own_block h.own.time.outer hk
    exact blk_types q1 hci (by decide) e) (fun j hj e => by
    have := (h.own.time.row j hj).2
    have := h.own.kb _ (.inr ⟨i, hi, rfl⟩)
    omega)).set_ (i := i) (u := .slice (some ⟨g4, 0, none⟩) (N + 1) cap) hgk).is_ hnl
  rw [show sqL N LT = x.time from h.own.tk.symm] at ht4
  refine ⟨⟨(heap_setCell_other _ _ _ _ (fun e => blk_types hb4 hco (by decide) (show gx = gk from e))).trans ?_, ⟨owns_sats hs4 rfl, owns_cus hc4 rfl, ?_, ht4⟩, ?_⟩, ?_, World.ownsRow.frozenAt ho i, by simp [World.cell?, hb4]⟩
  · rw [hb4]
    simp [insC, sqL_length, h.klen.1]
  · have e0 : ({ x with cost := (sqL N LK).set i ((List.range N).map (LK i) ++ [z]) } : Ins).cost.length = N := by simp [sqL_length]
    rw [e0, hka]
    refine ⟨by simp [sqL_length], .inr ⟨gk, 0, rfl, by simpa using (Array.getElem?_eq_some_iff.1 hco).1, fun j r hj => ?_⟩⟩
    have hjn : j < N := by have := (List.getElem?_eq_some_iff.1 hj).1; simpa [sqL_length] using this
    have hcell := World.ownsRow.cellAt hst.1 j (by omega)
    rw [Nat.zero_add]
    by_cases e : j = i
    · subst e
      have er : r = (List.range N).map (LK j) ++ [z] := by
        simp [sqL_length, hjn] at hj
        exact hj.symm
      subst er
      have hl : ((List.range N).map (LK j) ++ [z]).length = N + 1 := by simp
      rw [hl]
      have hnum : IsNums (w4.setCell ⟨gk, j, none⟩ (.slice (some ⟨g4, 0, none⟩) (N + 1) cap)).heap.size (w4.setCell ⟨gk, j, none⟩ (.slice (some ⟨g4, 0, none⟩) (N + 1) cap)) (some ⟨g4, 0, none⟩) (N + 1) ((List.range N).map (LK j) ++ [z]) := by
        refine ⟨hl, .inr ⟨g4, 0, rfl, (World.ownsRow.lt hrowi g4 rfl).2, fun t y hy => ?_⟩⟩
        have hr2 := hrowi
        rw [← numsV_snoc] at hr2
        rw [Nat.zero_add]
        exact nums_cell hr2 hy
      refine ⟨by omega, some ⟨g4, 0, none⟩, cap, ?_, hnum⟩
      rw [hcell]
      simp [hjn]
    · have er : r = (List.range N).map (LK j) := by
        have e2 : ¬ i = j := fun q => e q.symm
        simp only [List.getElem?_set, e2, if_false] at hj
        simp only [sqL, List.getElem?_map, List.getElem?_range hjn, Option.map_some, Option.some.injEq] at hj
        exact hj.symm
      subst er
      have hl : ((List.range N).map (LK j)).length = N := by simp
      rw [hl]
      have hrj : (w4.setCell ⟨gk, i, none⟩ (.slice (some ⟨g4, 0, none⟩) (N + 1) cap)).rowIs (VK j) 2 N (fun t => .int .i64 (LK j t)) := by
        have hrw := (h.own.cost.row j hjn).1
        have h1 := hrw.of_block (hM.block _ hrw.lt (fun e2 => e (h.own.cost.inj j i hjn hi e2)))
        obtain ⟨c9, q9⟩ := rowIs_block h1
        exact h1.setOther (a := ⟨gk, i, none⟩) (blk_types q9 hco (by decide)) _
      refine ⟨by omega, some ⟨VK j, 0, none⟩, N, ?_, by simp, .inr ⟨VK j, 0, rfl, hrj.lt, fun t y hy => ?_⟩⟩
      · rw [hcell]
        have e2 : ¬ i = j := fun q => e q.symm
        simp [e2, hjn]
      · have ht : t < N := by have := (List.getElem?_eq_some_iff.1 hy).1; simpa using this
        simp [ht] at hy
        subst hy
        rw [Nat.zero_add]
        exact hrj.cell ht
  · refine h.light_ (by have := h.ns; show x.sats.length ≤ 4; omega) h.nc (by show ((sqL N LK).set i _).length ≤ 10; simp [sqL_length]; exact h.nn) (by show x.time.length ≤ 10; rw [h.klen.2]; exact h.nn) (fun r hr => ?_) h.rowsT
    rcases List.mem_or_eq_of_mem_set hr with hr | rfl
    · have := sqL_mem hr
      have := h.nn
      omega
    · have := h.nn
      simp
      omega
  · rw [World.ownsRow.cellAt ho i (by omega)]
    exact ⟨.slice (some ⟨VK i, 0, none⟩) N N, by simp [hi]⟩
end Go.Proofs.YtnnddmojcaicbaaDoor
