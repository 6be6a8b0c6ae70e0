/- What the laws of package flow are handed: the law's pipes, a net by value, numbers. -/
import Derived.Test.YtbenmebmfihleaaMLNet
import Derived.ProofKit
import Derived.OpenShut
import Derived.ChangeOld
import Derived.DataReads
import Derived.Deep.Slices
import Derived.Lib.SmallJoins
namespace Go.Proofs.Ytbenmebmfihleaa
open Go.ChangeShapes Go.WideShapes Go.ChangeAt Go.RowKit

theorem cellsLP : Try.prog.cellsOf 54 = 4 := by kernel_rfl
theorem cellsPi : Try.prog.cellsOf 47 = 4 := by kernel_rfl
theorem cellsNet : Try.prog.cellsOf 27 = 2 := by kernel_rfl
theorem cellsU8 : Try.prog.cellsOf 5 = 1 := by kernel_rfl
theorem cellsI64 : Try.prog.cellsOf 2 = 1 := by kernel_rfl
theorem cellsInt : Try.prog.cellsOf 3 = 1 := by kernel_rfl
section
variable {H : Type} {enc : TypeId × Value → H} {w : World} {base : Nat} {spare : Nat → Bool} {held : Bool}
set_option maxRecDepth 100000 in
theorem lp_of {fuel : Nat} {cs : List Value} {x : DataW H × List MemPlace} (h : DataW.trod enc Try.prog w base spare held fuel 54 cs = some x) :
    ∃ c : Pi, cs = [.int .u8 c.1, .int .u8 c.2.1, .int .u8 c.2.2.1, .int .u8 c.2.2.2] ∧ SmallP c := by
  obtain ⟨xs, n, _, _, hlen, hxl, hf⟩ := DataW.trod_struct Try.underlying54 h
  rw [cellsLP] at hlen
  match cs, hlen with
  | [v0, v1, v2, v3], _ =>
    match xs, hxl with
    | [y0, y1, y2, y3], _ =>
      have g0 := hf 0 _ rfl
      have g1 := hf 1 _ rfl
      have g2 := hf 2 _ rfl
      have g3 := hf 3 _ rfl
      simp [cellsU8] at g0
      simp [cellsU8] at g1
      simp [cellsU8] at g2
      simp [cellsU8] at g3
      obtain ⟨t, ht, _, wt⟩ := DataW.trod_int Try.underlying5 g0
      obtain ⟨k, hk, _, wk⟩ := DataW.trod_int Try.underlying5 g1
      obtain ⟨i, hi, _, wi⟩ := DataW.trod_int Try.underlying5 g2
      obtain ⟨j, hj, _, wj⟩ := DataW.trod_int Try.underlying5 g3
      simp only [List.cons.injEq, and_true] at ht hk hi hj
      subst ht hk hi hj
      simp [Lit.wf, IntKind.min, IntKind.max, IntKind.signed, IntKind.bits] at wt wk wi wj
      exact ⟨(t, k, i, j), rfl, by unfold SmallP; simp only; omega⟩
set_option maxRecDepth 100000 in
theorem lps_of {fuel : Nat} {a : Option Addr} {len cap : Nat} {x : DataW H × List MemPlace} (h : DataW.trod enc Try.prog w base spare held fuel 22 [.slice a len cap] = some x) :
    len ≤ maxLen ∧ ∃ l, IsLP w.heap.size w a len l := by
  rcases Go.Deep.open_slice Try.underlying22 h with ⟨hcs, _⟩ | ⟨p, len', cap', m, n, D, Pl, hcs, _, hl, hm, hmm, _, hi⟩
  · simp only [List.cons.injEq, Value.slice.injEq, and_true] at hcs
    obtain ⟨rfl, rfl, rfl⟩ := hcs
    exact ⟨by unfold maxLen; omega, [], rfl, .inl rfl⟩
  · simp only [List.cons.injEq, Value.slice.injEq, and_true] at hcs
    obtain ⟨rfl, rfl, rfl⟩ := hcs
    refine ⟨by omega, ?_⟩
    have hlm : len ≤ m := by rw [hmm]; split <;> omega
    have each : ∀ i, i < len → ∃ c : Pi, w.cell? (p.add (i * 4)) = some (.int .u8 c.1) ∧ w.cell? (p.add (i * 4 + 1)) = some (.int .u8 c.2.1) ∧ w.cell? (p.add (i * 4 + 2)) = some (.int .u8 c.2.2.1) ∧ w.cell? (p.add (i * 4 + 3)) = some (.int .u8 c.2.2.2) ∧ SmallP c := fun i hil => by
      obtain ⟨cs', h1, h2⟩ := hi i (by omega)
      obtain ⟨c, rfl, hb⟩ := lp_of h2
      rw [cellsLP] at h1
      obtain ⟨_, _, hat⟩ := World.cells?_some h1
      have a0 := hat 0 (by omega)
      have a1 := hat 1 (by omega)
      have a2 := hat 2 (by omega)
      have a3 := hat 3 (by omega)
      rw [Go.Deep.add_add] at a0 a1 a2 a3
      exact ⟨c, by simpa using a0, by simpa using a1, by simpa using a2, by simpa using a3, hb⟩
    obtain ⟨f, hf⟩ := Go.Deep.choose_lt each
    refine ⟨(List.range len).map f, by simp, ?_⟩
    by_cases h0 : len = 0
    · exact .inl h0
    · obtain ⟨b, off, spot⟩ := p
      have hspot : spot = none := by simpa [Addr.add] using World.cell?_spot (hf 0 (by omega)).1
      subst hspot
      have hrow : LPRow w b off ((List.range len).map f) := fun i c hc => by
        have hil : i < len := by have := (List.getElem?_eq_some_iff.1 hc).1; simpa using this
        simp only [List.getElem?_map, List.getElem?_range hil, Option.map_some, Option.some.injEq] at hc
        subst hc
        have := hf i hil
        simp only [Addr.add_lit] at this
        exact this
      exact .inr ⟨b, off, rfl, World.block_lt_of_cell? w _ (hf 0 (by omega)).1, hrow⟩
set_option maxRecDepth 100000 in
theorem pipe_of {fuel : Nat} {cs : List Value} {x : DataW H × List MemPlace} (h : DataW.trod enc Try.prog w base spare held fuel 47 cs = some x) : ∃ c : Pi, cs = [.int .i64 c.1, .int .i64 c.2.1, .int .i64 c.2.2.1, .int .i64 c.2.2.2] := by
  obtain ⟨xs, n, _, _, hlen, hxl, hf⟩ := DataW.trod_struct Try.underlying47 h
  rw [cellsPi] at hlen
  match cs, hlen with
  | [v0, v1, v2, v3], _ =>
    match xs, hxl with
    | [y0, y1, y2, y3], _ =>
      have g0 := hf 0 _ rfl
      have g1 := hf 1 _ rfl
      have g2 := hf 2 _ rfl
      have g3 := hf 3 _ rfl
      simp [cellsInt] at g0
      simp [cellsInt] at g1
      simp [cellsI64] at g2
      simp [cellsI64] at g3
      obtain ⟨t, ht, _⟩ := DataW.trod_int Try.underlying3 g0
      obtain ⟨k, hk, _⟩ := DataW.trod_int Try.underlying3 g1
      obtain ⟨i, hi, _⟩ := DataW.trod_int Try.underlying2 g2
      obtain ⟨j, hj, _⟩ := DataW.trod_int Try.underlying2 g3
      simp only [List.cons.injEq, and_true] at ht hk hi hj
      subst ht hk hi hj
      exact ⟨(t, k, i, j), rfl⟩
set_option maxRecDepth 100000 in
theorem pipes_of {fuel : Nat} {a : Option Addr} {len cap : Nat} {x : DataW H × List MemPlace} (h : DataW.trod enc Try.prog w base spare held fuel 25 [.slice a len cap] = some x) :
    len ≤ maxLen ∧ ∃ l, IsPipes w.heap.size w a len l := by
  rcases Go.Deep.open_slice Try.underlying25 h with ⟨hcs, _⟩ | ⟨p, len', cap', m, n, D, Pl, hcs, _, hl, hm, hmm, _, hi⟩
  · simp only [List.cons.injEq, Value.slice.injEq, and_true] at hcs
    obtain ⟨rfl, rfl, rfl⟩ := hcs
    exact ⟨by unfold maxLen; omega, [], rfl, .inl rfl⟩
  · simp only [List.cons.injEq, Value.slice.injEq, and_true] at hcs
    obtain ⟨rfl, rfl, rfl⟩ := hcs
    refine ⟨by omega, ?_⟩
    have hlm : len ≤ m := by rw [hmm]; split <;> omega
    have each : ∀ i, i < len → ∃ c : Pi, w.cell? (p.add (i * 4)) = some (.int .i64 c.1) ∧ w.cell? (p.add (i * 4 + 1)) = some (.int .i64 c.2.1) ∧ w.cell? (p.add (i * 4 + 2)) = some (.int .i64 c.2.2.1) ∧ w.cell? (p.add (i * 4 + 3)) = some (.int .i64 c.2.2.2) := fun i hil => by
      obtain ⟨cs', h1, h2⟩ := hi i (by omega)
      obtain ⟨c, rfl⟩ := pipe_of h2
      rw [cellsPi] at h1
      obtain ⟨_, _, hat⟩ := World.cells?_some h1
      have a0 := hat 0 (by omega)
      have a1 := hat 1 (by omega)
      have a2 := hat 2 (by omega)
      have a3 := hat 3 (by omega)
      rw [Go.Deep.add_add] at a0 a1 a2 a3
      exact ⟨c, by simpa using a0, by simpa using a1, by simpa using a2, by simpa using a3⟩
    obtain ⟨f, hf⟩ := Go.Deep.choose_lt each
    refine ⟨(List.range len).map f, by simp, ?_⟩
    by_cases h0 : len = 0
    · exact .inl h0
    · obtain ⟨b, off, spot⟩ := p
      have hspot : spot = none := by simpa [Addr.add] using World.cell?_spot (hf 0 (by omega)).1
      subst hspot
      have hrow : PiRow w b off ((List.range len).map f) := fun i c hc => by
        have hil : i < len := by have := (List.getElem?_eq_some_iff.1 hc).1; simpa using this
        simp only [List.getElem?_map, List.getElem?_range hil, Option.map_some, Option.some.injEq] at hc
        subst hc
        have := hf i hil
        simp only [Addr.add_lit] at this
        exact this
      exact .inr ⟨b, off, rfl, World.block_lt_of_cell? w _ (hf 0 (by omega)).1, hrow⟩
set_option maxRecDepth 100000 in
/-- A net by value. -/
theorem net_of {r : Reach} {b0 : Nat} {v : Value} {d : DataW H} {p : List MemPlace} (hv : Value.okWide Try.prog w r b0 27 v) (h : DataW.Trod enc Try.prog w base spare held 27 v d p) :
    ∃ n a len cap l, v = .agg #[.int .i64 n, .slice a len cap] ∧ len ≤ maxLen ∧ IsPipes w.heap.size w a len l := by
  obtain ⟨c0, c1, y0, y1, m, rfl, _, _, hy0, hy1⟩ := Joins.open_agg2 Try.underlying27 (by kernel_rfl) cellsNet hv h
  obtain ⟨n, e0, _⟩ := DataW.trod_int Try.underlying3 hy0
  simp only [List.cons.injEq, and_true] at e0
  subst e0
  obtain ⟨a, len, cap, e1⟩ := Joins.slice_form Try.underlying25 hy1
  simp only [List.cons.injEq, and_true] at e1
  subst e1
  obtain ⟨h1, l, h2⟩ := pipes_of hy1
  exact ⟨n, a, len, cap, l, rfl, h1, h2⟩
set_option maxRecDepth 100000 in
theorem rowNums_of {fuel : Nat} {a : Option Addr} {len cap : Nat} {x : DataW H × List MemPlace} (h : DataW.trod enc Try.prog w base spare held fuel 31 [.slice a len cap] = some x) :
    len ≤ maxLen ∧ ∃ xs, IsNums w.heap.size w a len xs := by
  rcases open_ints Try.underlying31 Try.underlying2 (by kernel_rfl) h with ⟨hcs, _⟩ | ⟨p, l, c, zs, hcs, _, hl, hm, hz, _, hcell, _⟩
  · simp only [List.cons.injEq, Value.slice.injEq, and_true] at hcs
    obtain ⟨rfl, rfl, rfl⟩ := hcs
    exact ⟨Nat.zero_le _, [], rfl, .inl rfl⟩
  · simp only [List.cons.injEq, Value.slice.injEq, and_true] at hcs
    obtain ⟨rfl, rfl, rfl⟩ := hcs
    have hzl : len ≤ zs.length := by rw [hz]; split <;> omega
    refine ⟨Nat.le_trans hl hm, zs.take len, by rw [List.length_take]; omega, ?_⟩
    by_cases h0 : len = 0
    · exact .inl h0
    · obtain ⟨b, off, spot⟩ := p
      have hc0 := hcell 0 (by omega)
      have hspot : spot = none := by simpa [Addr.add] using World.cell?_spot hc0
      subst hspot
      refine .inr ⟨b, off, rfl, World.block_lt_of_cell? w _ hc0, fun j z hj => ?_⟩
      rw [List.getElem?_take] at hj
      by_cases hjl : j < len
      · rw [if_pos hjl] at hj
        have h1 := hcell j (by omega)
        rw [Addr.add_lit] at h1
        have h2 : zs.getD j 0 = z := by simp [List.getD, hj]
        rw [h2] at h1
        exact h1
      · rw [if_neg hjl] at hj; cases hj
end
end Go.Proofs.Ytbenmebmfihleaa
