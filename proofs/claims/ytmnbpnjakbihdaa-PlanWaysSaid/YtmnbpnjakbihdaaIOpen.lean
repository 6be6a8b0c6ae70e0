/- What the laws of package inst are handed: an instance by value, the law's small one. -/
import Derived.Test.YtmnbpnjakbihdaaIMakeT
import Derived.ProofKit
import Derived.OpenShut
import Derived.ChangeOld
import Derived.DataReads
import Derived.Deep.Slices
import Derived.Lib.SmallJoins
namespace Go.Proofs.Ytmnbpnjakbihdaa
open Go.ChangeShapes Go.WideShapes Go.ChangeAt Go.RowKit

theorem cellsSatI : Try.prog.cellsOf 80 = 2 := by kernel_rfl
theorem cellsCusI : Try.prog.cellsOf 68 = 4 := by kernel_rfl
theorem cellsFleetI : Try.prog.cellsOf 32 = 2 := by kernel_rfl
theorem cellsInst : Try.prog.cellsOf 37 = 9 := by kernel_rfl
theorem cellsSmall : Try.prog.cellsOf 26 = 11 := by kernel_rfl
theorem cellsSatL : Try.prog.cellsOf 78 = 2 := by kernel_rfl
theorem cellsWhoL : Try.prog.cellsOf 82 = 4 := by kernel_rfl
theorem cellsU8 : Try.prog.cellsOf 5 = 1 := by kernel_rfl
theorem cellsI64 : Try.prog.cellsOf 2 = 1 := by kernel_rfl
theorem cellsInt : Try.prog.cellsOf 3 = 1 := by kernel_rfl
theorem cellsBool : Try.prog.cellsOf 4 = 1 := by kernel_rfl
theorem cellsSS : Try.prog.cellsOf 33 = 1 := by kernel_rfl
theorem cellsSC : Try.prog.cellsOf 34 = 1 := by kernel_rfl
theorem cellsSR : Try.prog.cellsOf 35 = 1 := by kernel_rfl
theorem cellsSN : Try.prog.cellsOf 60 = 1 := by kernel_rfl
theorem cellsSU : Try.prog.cellsOf 24 = 1 := by kernel_rfl
theorem cellsSL : Try.prog.cellsOf 22 = 1 := by kernel_rfl
theorem cellsSW : Try.prog.cellsOf 23 = 1 := by kernel_rfl
section
variable {H : Type} {enc : TypeId × Value → H} {w : World} {base : Nat} {spare : Nat → Bool} {held : Bool}
set_option maxRecDepth 100000 in
theorem satI_of {fuel : Nat} {cs : List Value} {x : DataW H × List MemPlace} (h : DataW.trod enc Try.prog w base spare held fuel 80 cs = some x) :
    ∃ c : Int × Int, cs = [.int .i64 c.1, .int .i64 c.2] := by
  obtain ⟨xs, n, _, _, hlen, hxl, hf⟩ := DataW.trod_struct Try.underlying80 h
  rw [cellsSatI] at hlen
  match cs, hlen with
  | [v0, v1], _ =>
    match xs, hxl with
    | [y0, y1], _ =>
      have g0 := hf 0 _ rfl
      simp [cellsI64] at g0
      have g1 := hf 1 _ rfl
      simp [cellsI64] at g1
      obtain ⟨t0, ht0, _, wt0⟩ := DataW.trod_int Try.underlying2 g0
      obtain ⟨t1, ht1, _, wt1⟩ := DataW.trod_int Try.underlying2 g1
      simp only [List.cons.injEq, and_true] at ht0 ht1
      subst ht0 ht1
      exact ⟨(t0, t1), rfl⟩
set_option maxRecDepth 100000 in
theorem cusI_of {fuel : Nat} {cs : List Value} {x : DataW H × List MemPlace} (h : DataW.trod enc Try.prog w base spare held fuel 68 cs = some x) :
    ∃ c : Pi, cs = [.int .i64 c.1, .int .i64 c.2.1, .int .i64 c.2.2.1, .int .i64 c.2.2.2] := by
  obtain ⟨xs, n, _, _, hlen, hxl, hf⟩ := DataW.trod_struct Try.underlying68 h
  rw [cellsCusI] at hlen
  match cs, hlen with
  | [v0, v1, v2, v3], _ =>
    match xs, hxl with
    | [y0, y1, y2, y3], _ =>
      have g0 := hf 0 _ rfl
      simp [cellsI64] at g0
      have g1 := hf 1 _ rfl
      simp [cellsI64] at g1
      have g2 := hf 2 _ rfl
      simp [cellsI64] at g2
      have g3 := hf 3 _ rfl
      simp [cellsI64] at g3
      obtain ⟨t0, ht0, _, wt0⟩ := DataW.trod_int Try.underlying2 g0
      obtain ⟨t1, ht1, _, wt1⟩ := DataW.trod_int Try.underlying2 g1
      obtain ⟨t2, ht2, _, wt2⟩ := DataW.trod_int Try.underlying2 g2
      obtain ⟨t3, ht3, _, wt3⟩ := DataW.trod_int Try.underlying2 g3
      simp only [List.cons.injEq, and_true] at ht0 ht1 ht2 ht3
      subst ht0 ht1 ht2 ht3
      exact ⟨(t0, t1, t2, t3), rfl⟩
set_option maxRecDepth 100000 in
theorem satL_of {fuel : Nat} {cs : List Value} {x : DataW H × List MemPlace} (h : DataW.trod enc Try.prog w base spare held fuel 78 cs = some x) :
    ∃ c : Int × Int, cs = [.int .u8 c.1, .int .u8 c.2] ∧ (sm8 c.1 ∧ sm8 c.2) := by
  obtain ⟨xs, n, _, _, hlen, hxl, hf⟩ := DataW.trod_struct Try.underlying78 h
  rw [cellsSatL] at hlen
  match cs, hlen with
  | [v0, v1], _ =>
    match xs, hxl with
    | [y0, y1], _ =>
      have g0 := hf 0 _ rfl
      simp [cellsU8] at g0
      have g1 := hf 1 _ rfl
      simp [cellsU8] at g1
      obtain ⟨t0, ht0, _, wt0⟩ := DataW.trod_int Try.underlying5 g0
      obtain ⟨t1, ht1, _, wt1⟩ := DataW.trod_int Try.underlying5 g1
      simp only [List.cons.injEq, and_true] at ht0 ht1
      subst ht0 ht1
      simp [Lit.wf, IntKind.min, IntKind.max, IntKind.signed, IntKind.bits] at wt0 wt1
      exact ⟨(t0, t1), rfl, by unfold sm8; simp only; omega⟩
set_option maxRecDepth 100000 in
theorem whoL_of {fuel : Nat} {cs : List Value} {x : DataW H × List MemPlace} (h : DataW.trod enc Try.prog w base spare held fuel 82 cs = some x) :
    ∃ c : Pi, cs = [.int .u8 c.1, .int .u8 c.2.1, .int .u8 c.2.2.1, .int .u8 c.2.2.2] ∧ (sm8 c.1 ∧ sm8 c.2.1 ∧ sm8 c.2.2.1 ∧ sm8 c.2.2.2) := by
  obtain ⟨xs, n, _, _, hlen, hxl, hf⟩ := DataW.trod_struct Try.underlying82 h
  rw [cellsWhoL] at hlen
  match cs, hlen with
  | [v0, v1, v2, v3], _ =>
    match xs, hxl with
    | [y0, y1, y2, y3], _ =>
      have g0 := hf 0 _ rfl
      simp [cellsU8] at g0
      have g1 := hf 1 _ rfl
      simp [cellsU8] at g1
      have g2 := hf 2 _ rfl
      simp [cellsU8] at g2
      have g3 := hf 3 _ rfl
      simp [cellsU8] at g3
      obtain ⟨t0, ht0, _, wt0⟩ := DataW.trod_int Try.underlying5 g0
      obtain ⟨t1, ht1, _, wt1⟩ := DataW.trod_int Try.underlying5 g1
      obtain ⟨t2, ht2, _, wt2⟩ := DataW.trod_int Try.underlying5 g2
      obtain ⟨t3, ht3, _, wt3⟩ := DataW.trod_int Try.underlying5 g3
      simp only [List.cons.injEq, and_true] at ht0 ht1 ht2 ht3
      subst ht0 ht1 ht2 ht3
      simp [Lit.wf, IntKind.min, IntKind.max, IntKind.signed, IntKind.bits] at wt0 wt1 wt2 wt3
      exact ⟨(t0, t1, t2, t3), rfl, by unfold sm8; simp only; omega⟩
set_option maxRecDepth 100000 in
theorem satsI_of {fuel : Nat} {a : Option Addr} {len cap : Nat} {x : DataW H × List MemPlace} (h : DataW.trod enc Try.prog w base spare held fuel 33 [.slice a len cap] = some x) :
    len ≤ maxLen ∧ ∃ l, IsPairs w.heap.size w a len l := by
  rcases Go.Deep.open_slice Try.underlying33 h with ⟨hcs, _⟩ | ⟨p, len', cap', m, n, D, Pl, hcs, _, hl, hm, hmm, _, hi⟩
  · simp only [List.cons.injEq, Value.slice.injEq, and_true] at hcs
    obtain ⟨rfl, rfl, rfl⟩ := hcs
    exact ⟨by unfold maxLen; omega, [], rfl, .inl rfl⟩
  · simp only [List.cons.injEq, Value.slice.injEq, and_true] at hcs
    obtain ⟨rfl, rfl, rfl⟩ := hcs
    refine ⟨by omega, ?_⟩
    have hlm : len ≤ m := by rw [hmm]; split <;> omega
    have each : ∀ i, i < len → ∃ c : Int × Int, (w.cell? (p.add (i * 2)) = some (.int .i64 c.1) ∧ w.cell? (p.add (i * 2 + 1)) = some (.int .i64 c.2)) := fun i hil => by
      obtain ⟨cs', h1, h2⟩ := hi i (by omega)
      obtain ⟨c, rfl⟩ := satI_of h2
      rw [cellsSatI] at h1
      obtain ⟨_, _, hat⟩ := World.cells?_some h1
      have a0 := hat 0 (by omega)
      have a1 := hat 1 (by omega)
      rw [Go.Deep.add_add] at a0 a1
      exact ⟨c, by simpa using a0, by simpa using a1⟩
    obtain ⟨f, hf⟩ := Go.Deep.choose_lt each
    refine ⟨(List.range len).map f, by simp, ?_⟩
    by_cases h0 : len = 0
    · exact .inl h0
    · obtain ⟨b, off, spot⟩ := p
      have hspot : spot = none := by simpa [Addr.add] using World.cell?_spot (hf 0 (by omega)).1
      subst hspot
      have hrow : PairRow w b off ((List.range len).map f) := fun i c hc => by
        have hil : i < len := by have := (List.getElem?_eq_some_iff.1 hc).1; simpa using this
        simp only [List.getElem?_map, List.getElem?_range hil, Option.map_some, Option.some.injEq] at hc
        subst hc
        have := (hf i hil)
        simp only [Addr.add_lit] at this
        exact this
      exact .inr ⟨b, off, rfl, World.block_lt_of_cell? w _ (hf 0 (by omega)).1, hrow⟩
set_option maxRecDepth 100000 in
theorem cusI_ofs {fuel : Nat} {a : Option Addr} {len cap : Nat} {x : DataW H × List MemPlace} (h : DataW.trod enc Try.prog w base spare held fuel 34 [.slice a len cap] = some x) :
    len ≤ maxLen ∧ ∃ l, IsPipes w.heap.size w a len l := by
  rcases Go.Deep.open_slice Try.underlying34 h with ⟨hcs, _⟩ | ⟨p, len', cap', m, n, D, Pl, hcs, _, hl, hm, hmm, _, hi⟩
  · simp only [List.cons.injEq, Value.slice.injEq, and_true] at hcs
    obtain ⟨rfl, rfl, rfl⟩ := hcs
    exact ⟨by unfold maxLen; omega, [], rfl, .inl rfl⟩
  · simp only [List.cons.injEq, Value.slice.injEq, and_true] at hcs
    obtain ⟨rfl, rfl, rfl⟩ := hcs
    refine ⟨by omega, ?_⟩
    have hlm : len ≤ m := by rw [hmm]; split <;> omega
    have each : ∀ i, i < len → ∃ c : Pi, (w.cell? (p.add (i * 4)) = some (.int .i64 c.1) ∧ w.cell? (p.add (i * 4 + 1)) = some (.int .i64 c.2.1) ∧ w.cell? (p.add (i * 4 + 2)) = some (.int .i64 c.2.2.1) ∧ w.cell? (p.add (i * 4 + 3)) = some (.int .i64 c.2.2.2)) := fun i hil => by
      obtain ⟨cs', h1, h2⟩ := hi i (by omega)
      obtain ⟨c, rfl⟩ := cusI_of h2
      rw [cellsCusI] at h1
      obtain ⟨_, _, hat⟩ := World.cells?_some h1
      have a0 := hat 0 (by omega)
      have a1 := hat 1 (by omega)
      have a2 := hat 2 (by omega)
      have a3 := hat 3 (by omega)
      rw [Go.Deep.add_add] at a0 a1 a2 a3
      exact ⟨c, by simpa using a0, by simpa using a1, by simpa using a2, by simpa using a3⟩
    obtain ⟨f, hf⟩ := Go.Deep.choose_lt each
    refine ⟨(List.range len).map f, by simp, ?_⟩
    by_cases h0 : len = 0
    · exact .inl h0
    · obtain ⟨b, off, spot⟩ := p
      have hspot : spot = none := by simpa [Addr.add] using World.cell?_spot (hf 0 (by omega)).1
      subst hspot
      have hrow : PiRow w b off ((List.range len).map f) := fun i c hc => by
        have hil : i < len := by have := (List.getElem?_eq_some_iff.1 hc).1; simpa using this
        simp only [List.getElem?_map, List.getElem?_range hil, Option.map_some, Option.some.injEq] at hc
        subst hc
        have := (hf i hil)
        simp only [Addr.add_lit] at this
        exact this
      exact .inr ⟨b, off, rfl, World.block_lt_of_cell? w _ (hf 0 (by omega)).1, hrow⟩
set_option maxRecDepth 100000 in
theorem satsL_of {fuel : Nat} {a : Option Addr} {len cap : Nat} {x : DataW H × List MemPlace} (h : DataW.trod enc Try.prog w base spare held fuel 22 [.slice a len cap] = some x) :
    len ≤ maxLen ∧ ∃ l, IsSatU w.heap.size w a len l := by
  rcases Go.Deep.open_slice Try.underlying22 h with ⟨hcs, _⟩ | ⟨p, len', cap', m, n, D, Pl, hcs, _, hl, hm, hmm, _, hi⟩
  · simp only [List.cons.injEq, Value.slice.injEq, and_true] at hcs
    obtain ⟨rfl, rfl, rfl⟩ := hcs
    exact ⟨by unfold maxLen; omega, [], rfl, fun x hx => (by simp at hx), .inl rfl⟩
  · simp only [List.cons.injEq, Value.slice.injEq, and_true] at hcs
    obtain ⟨rfl, rfl, rfl⟩ := hcs
    refine ⟨by omega, ?_⟩
    have hlm : len ≤ m := by rw [hmm]; split <;> omega
    have each : ∀ i, i < len → ∃ c : Int × Int, (w.cell? (p.add (i * 2)) = some (.int .u8 c.1) ∧ w.cell? (p.add (i * 2 + 1)) = some (.int .u8 c.2)) ∧ (sm8 c.1 ∧ sm8 c.2) := fun i hil => by
      obtain ⟨cs', h1, h2⟩ := hi i (by omega)
      obtain ⟨c, rfl, hb⟩ := satL_of h2
      rw [cellsSatL] at h1
      obtain ⟨_, _, hat⟩ := World.cells?_some h1
      have a0 := hat 0 (by omega)
      have a1 := hat 1 (by omega)
      rw [Go.Deep.add_add] at a0 a1
      exact ⟨c, ⟨by simpa using a0, by simpa using a1⟩, hb⟩
    obtain ⟨f, hf⟩ := Go.Deep.choose_lt each
    refine ⟨(List.range len).map f, by simp, fun x hx => (by simp only [List.mem_map, List.mem_range] at hx; obtain ⟨i, hi2, rfl⟩ := hx; exact (hf i hi2).2), ?_⟩
    by_cases h0 : len = 0
    · exact .inl h0
    · obtain ⟨b, off, spot⟩ := p
      have hspot : spot = none := by simpa [Addr.add] using World.cell?_spot (hf 0 (by omega)).1.1
      subst hspot
      have hrow : PairU w b off ((List.range len).map f) := fun i c hc => by
        have hil : i < len := by have := (List.getElem?_eq_some_iff.1 hc).1; simpa using this
        simp only [List.getElem?_map, List.getElem?_range hil, Option.map_some, Option.some.injEq] at hc
        subst hc
        have := (hf i hil).1
        simp only [Addr.add_lit] at this
        exact this
      exact .inr ⟨b, off, rfl, World.block_lt_of_cell? w _ (hf 0 (by omega)).1.1, hrow⟩
set_option maxRecDepth 100000 in
theorem whosL_of {fuel : Nat} {a : Option Addr} {len cap : Nat} {x : DataW H × List MemPlace} (h : DataW.trod enc Try.prog w base spare held fuel 23 [.slice a len cap] = some x) :
    len ≤ maxLen ∧ ∃ l, IsWhoU w.heap.size w a len l := by
  rcases Go.Deep.open_slice Try.underlying23 h with ⟨hcs, _⟩ | ⟨p, len', cap', m, n, D, Pl, hcs, _, hl, hm, hmm, _, hi⟩
  · simp only [List.cons.injEq, Value.slice.injEq, and_true] at hcs
    obtain ⟨rfl, rfl, rfl⟩ := hcs
    exact ⟨by unfold maxLen; omega, [], rfl, fun x hx => (by simp at hx), .inl rfl⟩
  · simp only [List.cons.injEq, Value.slice.injEq, and_true] at hcs
    obtain ⟨rfl, rfl, rfl⟩ := hcs
    refine ⟨by omega, ?_⟩
    have hlm : len ≤ m := by rw [hmm]; split <;> omega
    have each : ∀ i, i < len → ∃ c : Pi, (w.cell? (p.add (i * 4)) = some (.int .u8 c.1) ∧ w.cell? (p.add (i * 4 + 1)) = some (.int .u8 c.2.1) ∧ w.cell? (p.add (i * 4 + 2)) = some (.int .u8 c.2.2.1) ∧ w.cell? (p.add (i * 4 + 3)) = some (.int .u8 c.2.2.2)) ∧ (sm8 c.1 ∧ sm8 c.2.1 ∧ sm8 c.2.2.1 ∧ sm8 c.2.2.2) := fun i hil => by
      obtain ⟨cs', h1, h2⟩ := hi i (by omega)
      obtain ⟨c, rfl, hb⟩ := whoL_of h2
      rw [cellsWhoL] at h1
      obtain ⟨_, _, hat⟩ := World.cells?_some h1
      have a0 := hat 0 (by omega)
      have a1 := hat 1 (by omega)
      have a2 := hat 2 (by omega)
      have a3 := hat 3 (by omega)
      rw [Go.Deep.add_add] at a0 a1 a2 a3
      exact ⟨c, ⟨by simpa using a0, by simpa using a1, by simpa using a2, by simpa using a3⟩, hb⟩
    obtain ⟨f, hf⟩ := Go.Deep.choose_lt each
    refine ⟨(List.range len).map f, by simp, fun x hx => (by simp only [List.mem_map, List.mem_range] at hx; obtain ⟨i, hi2, rfl⟩ := hx; exact (hf i hi2).2), ?_⟩
    by_cases h0 : len = 0
    · exact .inl h0
    · obtain ⟨b, off, spot⟩ := p
      have hspot : spot = none := by simpa [Addr.add] using World.cell?_spot (hf 0 (by omega)).1.1
      subst hspot
      have hrow : QuadU w b off ((List.range len).map f) := fun i c hc => by
        have hil : i < len := by have := (List.getElem?_eq_some_iff.1 hc).1; simpa using this
        simp only [List.getElem?_map, List.getElem?_range hil, Option.map_some, Option.some.injEq] at hc
        subst hc
        have := (hf i hil).1
        simp only [Addr.add_lit] at this
        exact this
      exact .inr ⟨b, off, rfl, World.block_lt_of_cell? w _ (hf 0 (by omega)).1.1, hrow⟩
set_option maxRecDepth 100000 in
theorem numsI_of {fuel : Nat} {a : Option Addr} {len cap : Nat} {x : DataW H × List MemPlace} (h : DataW.trod enc Try.prog w base spare held fuel 60 [.slice a len cap] = some x) :
    len ≤ maxLen ∧ ∃ xs, IsNums w.heap.size w a len xs := by
  rcases open_ints Try.underlying60 Try.underlying2 (by kernel_rfl) h with ⟨hcs, _⟩ | ⟨p, l, c, zs, hcs, _, hl, hm, hz, _, hcell, _⟩
  · simp only [List.cons.injEq, Value.slice.injEq, and_true] at hcs
    obtain ⟨rfl, rfl, rfl⟩ := hcs
    exact ⟨Nat.zero_le _, [], rfl, .inl rfl⟩
  · simp only [List.cons.injEq, Value.slice.injEq, and_true] at hcs
    obtain ⟨rfl, rfl, rfl⟩ := hcs
    have hzl : len ≤ zs.length := by rw [hz]; split <;> omega
    refine ⟨Nat.le_trans hl hm, zs.take len, by rw [List.length_take]; omega, ?_⟩
    by_cases h0 : len = 0
    · exact .inl h0
    · obtain ⟨b, off, spot⟩ := p
      have hc0 := hcell 0 (by omega)
      have hspot : spot = none := by simpa [Addr.add] using World.cell?_spot hc0
      subst hspot
      refine .inr ⟨b, off, rfl, World.block_lt_of_cell? w _ hc0, fun j z hj => ?_⟩
      rw [List.getElem?_take] at hj
      by_cases hjl : j < len
      · rw [if_pos hjl] at hj
        have h1 := hcell j (by omega)
        rw [Addr.add_lit] at h1
        have h2 : zs.getD j 0 = z := by simp [List.getD, hj]
        rw [h2] at h1
        exact h1
      · rw [if_neg hjl] at hj; cases hj
set_option maxRecDepth 100000 in
theorem u8s_of {fuel : Nat} {a : Option Addr} {len cap : Nat} {x : DataW H × List MemPlace} (h : DataW.trod enc Try.prog w base spare held fuel 24 [.slice a len cap] = some x) :
    len ≤ maxLen ∧ ∃ xs, IsU8 w.heap.size w a len xs := by
  rcases Go.Deep.open_slice Try.underlying24 h with ⟨hcs, _⟩ | ⟨p, len', cap', m, n, D, Pl, hcs, _, hl, hm, hmm, _, hi⟩
  · simp only [List.cons.injEq, Value.slice.injEq, and_true] at hcs
    obtain ⟨rfl, rfl, rfl⟩ := hcs
    exact ⟨by unfold maxLen; omega, [], rfl, fun x hx => (by simp at hx), .inl rfl⟩
  · simp only [List.cons.injEq, Value.slice.injEq, and_true] at hcs
    obtain ⟨rfl, rfl, rfl⟩ := hcs
    refine ⟨by omega, ?_⟩
    have hlm : len ≤ m := by rw [hmm]; split <;> omega
    have each : ∀ i, i < len → ∃ c : Int, w.cell? (p.add i) = some (.int .u8 c) ∧ (0 ≤ c ∧ c ≤ 255) := fun i hil => by
      obtain ⟨cs', h1, h2⟩ := hi i (by omega)
      obtain ⟨c, rfl, _, wc⟩ := DataW.trod_int Try.underlying5 h2
      rw [cellsU8] at h1
      obtain ⟨_, _, hat⟩ := World.cells?_some h1
      have a0 := hat 0 (by omega)
      rw [Go.Deep.add_add] at a0
      simp [Lit.wf, IntKind.min, IntKind.max, IntKind.signed, IntKind.bits] at wc
      exact ⟨c, by simpa using a0, wc⟩
    obtain ⟨f, hf⟩ := Go.Deep.choose_lt each
    refine ⟨(List.range len).map f, by simp, fun x hx => (by simp only [List.mem_map, List.mem_range] at hx; obtain ⟨i, hi2, rfl⟩ := hx; exact (hf i hi2).2), ?_⟩
    by_cases h0 : len = 0
    · exact .inl h0
    · obtain ⟨b, off, spot⟩ := p
      have hspot : spot = none := by simpa [Addr.add] using World.cell?_spot (hf 0 (by omega)).1
      subst hspot
      refine .inr ⟨b, off, rfl, World.block_lt_of_cell? w _ (hf 0 (by omega)).1, fun i c hc => ?_⟩
      have hil : i < len := by have := (List.getElem?_eq_some_iff.1 hc).1; simpa using this
      simp only [List.getElem?_map, List.getElem?_range hil, Option.map_some, Option.some.injEq] at hc
      subst hc
      have := (hf i hil).1
      simp only [Addr.add_lit] at this
      exact this
set_option maxRecDepth 100000 in
theorem rowsI_of {fuel : Nat} {a : Option Addr} {len cap : Nat} {x : DataW H × List MemPlace} (h : DataW.trod enc Try.prog w base spare held fuel 35 [.slice a len cap] = some x) :
    len ≤ maxLen ∧ ∃ L, IsRows w.heap.size w a len L := by
  rcases Go.Deep.open_slice Try.underlying35 h with ⟨hcs, _⟩ | ⟨p, len', cap', m, n, D, Pl, hcs, _, hl, hm, hmm, _, hi⟩
  · simp only [List.cons.injEq, Value.slice.injEq, and_true] at hcs
    obtain ⟨rfl, rfl, rfl⟩ := hcs
    exact ⟨by unfold maxLen; omega, [], rfl, .inl rfl⟩
  · simp only [List.cons.injEq, Value.slice.injEq, and_true] at hcs
    obtain ⟨rfl, rfl, rfl⟩ := hcs
    refine ⟨by omega, ?_⟩
    have hlm : len ≤ m := by rw [hmm]; split <;> omega
    have each : ∀ i, i < len → ∃ r : List Int, r.length ≤ 9223372036854775807 ∧ ∃ ra rc, w.cell? (p.add i) = some (.slice ra r.length rc) ∧ IsNums w.heap.size w ra r.length r := fun i hil => by
      obtain ⟨cs', h1, h2⟩ := hi i (by omega)
      obtain ⟨ra, rl, rc, e⟩ := Joins.slice_form Try.underlying60 h2
      subst e
      rw [cellsSN] at h1
      obtain ⟨_, _, hat⟩ := World.cells?_some h1
      have a0 := hat 0 (by omega)
      rw [Go.Deep.add_add] at a0
      obtain ⟨hb, r, hr⟩ := numsI_of h2
      have hrl := hr.1
      subst hrl
      exact ⟨r, by unfold maxLen at hb; omega, ra, rc, by simpa using a0, hr⟩
    obtain ⟨f, hf⟩ := Go.Deep.choose_lt each
    refine ⟨(List.range len).map f, by simp, ?_⟩
    by_cases h0 : len = 0
    · exact .inl h0
    · obtain ⟨b, off, spot⟩ := p
      obtain ⟨_, ra0, rc0, hc0, _⟩ := hf 0 (by omega)
      have hspot : spot = none := by simpa [Addr.add] using World.cell?_spot hc0
      subst hspot
      refine .inr ⟨b, off, rfl, World.block_lt_of_cell? w _ hc0, fun i c hc => ?_⟩
      have hil : i < len := by have := (List.getElem?_eq_some_iff.1 hc).1; simpa using this
      simp only [List.getElem?_map, List.getElem?_range hil, Option.map_some, Option.some.injEq] at hc
      subst hc
      have := hf i hil
      simp only [Addr.add_lit] at this
      exact this
set_option maxRecDepth 100000 in
theorem fleet_of {fuel : Nat} {cs : List Value} {x : DataW H × List MemPlace} (h : DataW.trod enc Try.prog w base spare held fuel 32 cs = some x) :
    ∃ a b : Int, cs = [.int .i64 a, .int .i64 b] := by
  obtain ⟨xs, n, _, _, hlen, hxl, hf⟩ := DataW.trod_struct Try.underlying32 h
  rw [cellsFleetI] at hlen
  match cs, hlen with
  | [v0, v1], _ =>
    match xs, hxl with
    | [y0, y1], _ =>
      have g0 := hf 0 _ rfl
      have g1 := hf 1 _ rfl
      simp [cellsInt] at g0
      simp [cellsI64] at g1
      obtain ⟨t0, ht0, _⟩ := DataW.trod_int Try.underlying3 g0
      obtain ⟨t1, ht1, _⟩ := DataW.trod_int Try.underlying2 g1
      simp only [List.cons.injEq, and_true] at ht0 ht1
      subst ht0 ht1
      exact ⟨t0, t1, rfl⟩
set_option maxRecDepth 100000 in
/-- An instance by value. -/
theorem ins_of {r : Reach} {b0 : Nat} {v : Value} {d : DataW H} {p : List MemPlace} (hv : Value.okWide Try.prog w r b0 37 v) (h : DataW.Trod enc Try.prog w base spare held 37 v d p) :
    ∃ (A : InA) (x : Ins), v = .agg (insC A x) ∧ x.Len ∧ IsIns w.heap.size w A x := by
  obtain ⟨cs, rfl, hsz⟩ := okWide_struct Try.underlying37 hv
  obtain ⟨fuel, hf0⟩ := h
  obtain ⟨xs, n, _, _, hlen, hxl, hf⟩ := DataW.trod_struct Try.underlying37 hf0
  obtain ⟨l⟩ := cs
  have hll : l.length = 9 := by simpa [cellsInst] using hsz
  match l, hll with
  | [v0, v1, v2, v3, v4, v5, v6, v7, v8], _ =>
    match xs, hxl with
    | [y0, y1, y2, y3, y4, y5, y6], _ =>
      have g0 := hf 0 _ rfl
      have g1 := hf 1 _ rfl
      have g2 := hf 2 _ rfl
      have g3 := hf 3 _ rfl
      have g4 := hf 4 _ rfl
      have g5 := hf 5 _ rfl
      have g6 := hf 6 _ rfl
      simp [cellsI64, Value.cells] at g0
      simp [cellsFleetI, Value.cells] at g1
      simp [cellsFleetI, Value.cells] at g2
      simp [cellsSS, Value.cells] at g3
      simp [cellsSC, Value.cells] at g4
      simp [cellsSR, Value.cells] at g5
      simp [cellsSR, Value.cells] at g6
      obtain ⟨en, e0, _⟩ := DataW.trod_int Try.underlying2 g0
      obtain ⟨tm, tr, e1⟩ := fleet_of g1
      obtain ⟨bm, br, e2⟩ := fleet_of g2
      obtain ⟨sa, sl, sc, e3⟩ := Joins.slice_form Try.underlying33 g3
      obtain ⟨ca, cl, cc, e4⟩ := Joins.slice_form Try.underlying34 g4
      obtain ⟨ka, kl, kc, e5⟩ := Joins.slice_form Try.underlying35 g5
      obtain ⟨ta, tl, tc, e6⟩ := Joins.slice_form Try.underlying35 g6
      simp only [List.cons.injEq, and_true] at e0 e1 e2 e3 e4 e5 e6
      obtain ⟨rfl, rfl⟩ := e1
      obtain ⟨rfl, rfl⟩ := e2
      subst e0 e3 e4 e5 e6
      obtain ⟨m3, s, h3⟩ := satsI_of g3
      obtain ⟨m4, c, h4⟩ := cusI_ofs g4
      obtain ⟨m5, K, h5⟩ := rowsI_of g5
      obtain ⟨m6, T, h6⟩ := rowsI_of g6
      have l3 := h3.1
      have l4 := h4.1
      have l5 := h5.1
      have l6 := h6.1
      subst l3 l4 l5 l6
      unfold maxLen at m3 m4 m5 m6
      exact ⟨⟨sa, sc, ca, cc, ka, kc, ta, tc⟩, ⟨en, tm, tr, bm, br, s, c, K, T⟩, rfl, ⟨by simpa using m3, by simpa using m4, by simpa using m5, by simpa using m6⟩, ⟨h3, h4, h5, h6⟩⟩
set_option maxRecDepth 100000 in
/-- The law's small instance by value. -/
theorem small_of {r : Reach} {b0 : Nat} {v : Value} {d : DataW H} {p : List MemPlace} (hv : Value.okWide Try.prog w r b0 26 v) (h : DataW.Trod enc Try.prog w base spare held 26 v d p) :
    ∃ (A : SmA) (s : Sm), v = .agg (smC A s) ∧ IsSm w.heap.size w A s := by
  obtain ⟨cs, rfl, hsz⟩ := okWide_struct Try.underlying26 hv
  obtain ⟨fuel, hf0⟩ := h
  obtain ⟨xs, n, _, _, hlen, hxl, hf⟩ := DataW.trod_struct Try.underlying26 hf0
  obtain ⟨l⟩ := cs
  have hll : l.length = 11 := by simpa [cellsSmall] using hsz
  match l, hll with
  | [v0, v1, v2, v3, v4, v5, v6, v7, v8, v9, v10], _ =>
    match xs, hxl with
    | [y0, y1, y2, y3, y4, y5, y6, y7, y8, y9, y10], _ =>
      have g0 := hf 0 _ rfl
      simp [cellsU8, Value.cells] at g0
      have g1 := hf 1 _ rfl
      simp [cellsU8, Value.cells] at g1
      have g2 := hf 2 _ rfl
      simp [cellsU8, Value.cells] at g2
      have g3 := hf 3 _ rfl
      simp [cellsU8, Value.cells] at g3
      have g4 := hf 4 _ rfl
      simp [cellsU8, Value.cells] at g4
      have g5 := hf 5 _ rfl
      simp [cellsSL, Value.cells] at g5
      have g6 := hf 6 _ rfl
      simp [cellsSW, Value.cells] at g6
      have g7 := hf 7 _ rfl
      simp [cellsSU, Value.cells] at g7
      have g8 := hf 8 _ rfl
      simp [cellsSU, Value.cells] at g8
      have g9 := hf 9 _ rfl
      simp [cellsBool, Value.cells] at g9
      have g10 := hf 10 _ rfl
      simp [cellsBool, Value.cells] at g10
      obtain ⟨t0, e0, _, wt0⟩ := DataW.trod_int Try.underlying5 g0
      obtain ⟨t1, e1, _, wt1⟩ := DataW.trod_int Try.underlying5 g1
      obtain ⟨t2, e2, _, wt2⟩ := DataW.trod_int Try.underlying5 g2
      obtain ⟨t3, e3, _, wt3⟩ := DataW.trod_int Try.underlying5 g3
      obtain ⟨t4, e4, _, wt4⟩ := DataW.trod_int Try.underlying5 g4
      obtain ⟨a5, l5, c5, e5⟩ := Joins.slice_form Try.underlying22 g5
      obtain ⟨a6, l6, c6, e6⟩ := Joins.slice_form Try.underlying23 g6
      obtain ⟨a7, l7, c7, e7⟩ := Joins.slice_form Try.underlying24 g7
      obtain ⟨a8, l8, c8, e8⟩ := Joins.slice_form Try.underlying24 g8
      obtain ⟨q9, e9, _⟩ := DataW.trod_bool Try.underlying4 g9
      obtain ⟨q10, e10, _⟩ := DataW.trod_bool Try.underlying4 g10
      simp only [List.cons.injEq, and_true] at e0 e1 e2 e3 e4 e5 e6 e7 e8 e9 e10
      subst e0 e1 e2 e3 e4 e5 e6 e7 e8 e9 e10
      obtain ⟨m5, s, h5⟩ := satsL_of g5
      obtain ⟨m6, c, h6⟩ := whosL_of g6
      obtain ⟨m7, K, h7⟩ := u8s_of g7
      obtain ⟨m8, T, h8⟩ := u8s_of g8
      have l5' := h5.1
      have l6' := h6.1
      subst l5' l6'
      unfold maxLen at m5 m6
      simp [Lit.wf, IntKind.min, IntKind.max, IntKind.signed, IntKind.bits] at wt0 wt1 wt2 wt3 wt4
      exact ⟨⟨a5, c5, a6, c6, a7, l7, c7, a8, l8, c8⟩, ⟨t0, t1, t2, t3, t4, s, c, K, T, q9, q10⟩, rfl, ⟨h5, h6, h7, h8, ⟨wt0, wt1, wt2, wt3, wt4⟩, by simpa using m5, by simpa using m6⟩⟩
end
end Go.Proofs.Ytmnbpnjakbihdaa
