/- Joined: BoxK, Turned, TurnedDo. -/
import Derived.Test.YtchdpapaojkbhaaGrA
import Derived.Test.YtchdpapaojkbhaaBase1
import Derived.OneCell
section
/- Package graph: the receiver's box, where some blocks alone are written. -/
namespace Go.Proofs.Ytchdpapaojkbhaa
open Go.RowKit

variable {w wr w2 : World} {a : Option Addr} {len cap g : Nat} {n : Int}
theorem Box.kept {S : Nat → Prop} (h : Box w wr g n a len cap) (hm : Mod S wr w2) (hS : ∀ k, S k → w.heap.size ≤ k) (hg : ¬ S g) : Box w w2 g n a len cap :=
  ⟨((Mod.of_below S h.below).trans hm).below (Nat.le_refl _) hS, h.ge, (hm.block g h.lt hg).trans h.blk⟩
end Go.Proofs.Ytchdpapaojkbhaa
end
section
/- Package graph: Turned. -/
namespace Go.Proofs.Ytchdpapaojkbhaa
open Go.RowKit

/-- With each arc the other way round. -/
def turned (l : List Ar) : List Ar := l.map fun x => (x.2.1, x.1, x.2.2)
/-- The cells of a row of len arcs, of which the first k are turned. -/
def turnF (l : List Ar) (k j : Nat) : Value :=
  let x := if j / 3 < k then l.getD (j / 3) (0, 0, 0) else (0, 0, 0)
  if j % 3 = 0 then .int .i64 x.2.1 else if j % 3 = 1 then .int .i64 x.1 else .int .i64 x.2.2
variable {w wr w2 w4 : World} {a : Option Addr} {len cap B B2 g T rs k : Nat} {l : List Ar} {n : Int} {x : Ar}
theorem turnF_old {j : Nat} (h : j < k * 3 ∨ k * 3 + 3 ≤ j) : turnF l (k + 1) j = turnF l k j := by
  have : (j / 3 < k + 1) = (j / 3 < k) := by apply propext; omega
  simp only [turnF, this]
theorem turnF_new (hx : l[k]? = some x) : turnF l (k + 1) (k * 3) = .int .i64 x.2.1 ∧ turnF l (k + 1) (k * 3 + 1) = .int .i64 x.1 ∧ turnF l (k + 1) (k * 3 + 2) = .int .i64 x.2.2 := by
  have e0 : k * 3 / 3 = k := by omega
  have e1 : (k * 3 + 1) / 3 = k := by omega
  have e2 : (k * 3 + 2) / 3 = k := by omega
  have m0 : k * 3 % 3 = 0 := by omega
  have m1 : (k * 3 + 1) % 3 = 1 := by omega
  have m2 : (k * 3 + 2) % 3 = 2 := by omega
  simp [turnF, e0, e1, e2, m0, m1, m2, List.getD, hx]
/-- What Turned has: the receiver's box; its result's; the new row. -/
structure TurnW (w wr : World) (g rs T : Nat) (n : Int) (a : Option Addr) (len cap : Nat) (l : List Ar) (k : Nat) : Prop where
  box : Box w wr g n a len cap
  res : wr.heap[rs]? = some (.cells #[.int .i64 0, .slice none 0 0] 71 (0, 0))
  row : wr.rowIs T 88 (len * 3) (turnF l k)
  lt1 : g < rs
  lt2 : rs < T
theorem TurnW.later (h : TurnW w wr g rs T n a len cap l k) (hb : Below wr.heap.size wr w2) : TurnW w w2 g rs T n a len cap l k :=
  ⟨h.box.later hb, (hb.block rs (by have := h.lt2; have := h.row.lt; omega)).trans h.res, rowIs_below h.row hb, h.lt1, h.lt2⟩
theorem TurnW.set_ (h : TurnW w wr g rs T n a len cap l k) (hx : l[k]? = some x) (_hk : k < len) :
    TurnW w (((wr.setCell ⟨T, k * 3, none⟩ (.int .i64 x.2.1)).setCell ⟨T, k * 3 + 1, none⟩ (.int .i64 x.1)).setCell ⟨T, k * 3 + 2, none⟩ (.int .i64 x.2.2)) g rs T n a len cap l (k + 1) := by
  have hge := h.box.ge
  have h1 := h.lt1
  have h2 := h.lt2
  have hm : Mod (fun b => b = T) wr (((wr.setCell ⟨T, k * 3, none⟩ (.int .i64 x.2.1)).setCell ⟨T, k * 3 + 1, none⟩ (.int .i64 x.1)).setCell ⟨T, k * 3 + 2, none⟩ (.int .i64 x.2.2)) :=
    (((Mod.refl (fun b => b = T) wr).setCell (p := ⟨T, k * 3, none⟩) (.inr rfl) _).setCell (p := ⟨T, k * 3 + 1, none⟩) (.inr rfl) _).setCell (p := ⟨T, k * 3 + 2, none⟩) (.inr rfl) _
  refine ⟨h.box.kept hm (fun k hk => by omega) (by omega), (hm.block rs (by have := h.row.lt; omega) (by omega)).trans h.res, ?_, h1, h2⟩
  refine (((h.row.set (k * 3) _).set (k * 3 + 1) _).set (k * 3 + 2) _).congr (fun j _ => ?_)
  obtain ⟨t0, t1, t2⟩ := turnF_new hx
  by_cases j2 : j = k * 3 + 2
  · subst j2; simp [t2]
  · by_cases j1 : j = k * 3 + 1
    · subst j1; simp [t1]
    · by_cases j0 : j = k * 3
      · subst j0; simp [t0]
      · simp only [j2, j1, j0, if_false]
        rw [turnF_old (by omega)]
theorem TurnW.arcs (h : TurnW w wr g rs T n a len cap l k) (hl : l.length = len) (hk : len ≤ k) : IsArcs wr.heap.size wr (some ⟨T, 0, none⟩) len (turned l) := by
  refine ⟨by simp [turned, hl], .inr ⟨T, 0, rfl, h.row.lt, fun j x hj => ?_⟩⟩
  have hjl : j < len := by have := (List.getElem?_eq_some_iff.1 hj).1; simpa [turned, hl] using this
  have hlj : l[j]? = some (l[j]'(by omega)) := List.getElem?_eq_getElem (by omega)
  have hx : x = ((l[j]'(by omega)).2.1, (l[j]'(by omega)).1, (l[j]'(by omega)).2.2) := by
    rw [turned, List.getElem?_map, hlj] at hj
    simpa using hj.symm
  have e : ∀ m, m < 3 → turnF l k (j * 3 + m) = turnF l (j + 1) (j * 3 + m) := fun m hm => by
    have q1 : (j * 3 + m) / 3 = j := by omega
    simp only [turnF, q1, show j < k by omega, show j < j + 1 by omega]
  obtain ⟨t0, t1, t2⟩ := turnF_new hlj
  have c0 := h.row.cell (i := j * 3) (by omega)
  have c1 := h.row.cell (i := j * 3 + 1) (by omega)
  have c2 := h.row.cell (i := j * 3 + 2) (by omega)
  have e0 := e 0 (by omega)
  rw [Nat.add_zero] at e0
  rw [e0, t0] at c0
  rw [e 1 (by omega), t1] at c1
  rw [e 2 (by omega), t2] at c2
  subst hx
  simp only [Nat.zero_add]
  exact ⟨c0, c1, c2⟩
end Go.Proofs.Ytchdpapaojkbhaa
end
section
/- Package graph: Turned: the walk. -/
namespace Go.Proofs.Ytchdpapaojkbhaa
open Go.RowKit

variable {w wr : World} {a : Option Addr} {len cap g T rs : Nat} {l : List Ar} {n : Int}
theorem infoArc : (Try.prog.info? 88).map (fun i => (i.zero, i.size, i.bytes)) = some (some (.agg #[.int .i64 0, .int .i64 0, .int .i64 0]), 3, 24) := by kernel_rfl
theorem infoGraph : (Try.prog.info? 71).map (fun i => i.size) = some 2 := by kernel_rfl
theorem make_arcs (len : Nat) (h : len ≤ 1000000) (w : World) :
    (Instr.makeSlice 69 (.int .i64 (len : Int)) (.int .i64 (len : Int))).run Try.prog w = .ok (.slice (some ⟨w.heap.size, 0, none⟩) len len) (w.alloc (.cells (madeCells #[.int .i64 0, .int .i64 0, .int .i64 0] (len * 3)) 88)) := by
  obtain ⟨i, hi, hz, hs, hb⟩ := info_parts infoArc
  have hr := run_make (P := Try.prog) w 69 88 i _ Try.underlying69 hi hz .i64 .i64 (len : Int) (len : Int) (by omega) (Int.le_refl _) (by rw [hb]; omega) (by omega)
  simpa [hs, Value.cells] using hr
theorem made_row (w : World) (len : Nat) (l : List Ar) : (w.alloc (.cells (madeCells #[.int .i64 0, .int .i64 0, .int .i64 0] (len * 3)) 88)).rowIs w.heap.size 88 (len * 3) (turnF l 0) := by
  have h := World.rowIs_alloc w (madeCells #[.int .i64 0, .int .i64 0, .int .i64 0] (len * 3)) 88 (turnF l 0) (fun j hj => by
    rw [size_madeCells] at hj
    have e : turnF l 0 j = .int .i64 0 := by simp [turnF]
    rw [e]
    have hm : j % 3 = 0 ∨ j % 3 = 1 ∨ j % 3 = 2 := by omega
    rcases hm with hm | hm | hm <;> simp [madeCells, hj, hm])
  rwa [size_madeCells] at h

/-- The result is written: what stands then. -/
theorem TurnW.done {k : Nat} (h : TurnW w wr g rs T n a len cap l k) (hl : l.length = len) (hk : len ≤ k) :
    (((wr.setCell ⟨rs, 0, none⟩ (.int .i64 n)).setCell ⟨rs, 1, none⟩ (.slice (some ⟨T, 0, none⟩) len len)).heap[rs]? = some (.cells #[.int .i64 n, .slice (some ⟨T, 0, none⟩) len len] 71 (0, 0))) ∧
    IsArcs ((wr.setCell ⟨rs, 0, none⟩ (.int .i64 n)).setCell ⟨rs, 1, none⟩ (.slice (some ⟨T, 0, none⟩) len len)).heap.size ((wr.setCell ⟨rs, 0, none⟩ (.int .i64 n)).setCell ⟨rs, 1, none⟩ (.slice (some ⟨T, 0, none⟩) len len)) (some ⟨T, 0, none⟩) len (turned l) ∧
    w.heap.size ≤ T ∧ Below w.heap.size w ((wr.setCell ⟨rs, 0, none⟩ (.int .i64 n)).setCell ⟨rs, 1, none⟩ (.slice (some ⟨T, 0, none⟩) len len)) := by
  have h1 := h.lt1
  have h2 := h.lt2
  have h3 := h.box.ge
  have hm : Mod (fun b => b = rs) wr ((wr.setCell ⟨rs, 0, none⟩ (.int .i64 n)).setCell ⟨rs, 1, none⟩ (.slice (some ⟨T, 0, none⟩) len len)) :=
    ((Mod.refl (fun b => b = rs) wr).setCell (p := ⟨rs, 0, none⟩) (.inr rfl) _).setCell (p := ⟨rs, 1, none⟩) (.inr rfl) _
  refine ⟨?_, ?_, by omega, ((Mod.of_below (fun b => b = rs) h.box.below).trans hm).below (Nat.le_refl _) (fun k hk => by omega)⟩
  · exact heap_setCell_same _ _ _ _ _ _ (heap_setCell_same _ _ _ _ _ _ h.res)
  · have ha := h.arcs hl hk
    refine ⟨ha.1, ?_⟩
    rcases ha.2 with h0 | ⟨b, off, e, hb, hr⟩
    · exact .inl h0
    · simp only [Option.some.injEq, Addr.mk.injEq, and_true] at e
      obtain ⟨e1, e2⟩ := e
      subst e1 e2
      exact .inr ⟨T, 0, rfl, Nat.lt_of_lt_of_le hb hm.size, hr.of_block (hm.block T hb (by omega))⟩

set_option maxHeartbeats 1000000 in
set_option maxRecDepth 100000 in
theorem turned_any (n : Int) (hlen : len ≤ 1000000) (a : Option Addr) (cap : Nat) (w : World) (hl : IsArcs w.heap.size w a len l) :
    Calls Try.prog 32 #[.agg #[.int .i64 n, .slice a len cap]] w fun e w' => ∃ T, e = .returned (.agg #[.int .i64 n, .slice (some ⟨T, 0, none⟩) len len]) ∧ IsArcs w'.heap.size w' (some ⟨T, 0, none⟩) len (turned l) ∧ w.heap.size ≤ T ∧ Below w.heap.size w w' := by
  have hmk := make_arcs len hlen
  have HLn : Hid (l.length = len) := Lib.hid hl.1
  have HL := Lib.hid hl; clear hl
  have HG0 : Hid (TurnW w (((w.alloc (.cells #[.int .i64 n, .slice a len cap] 71)).alloc (.cells #[.int .i64 0, .slice none 0 0] 71)).alloc (.cells (madeCells #[.int .i64 0, .int .i64 0, .int .i64 0] (len * 3)) 88)) w.heap.size (w.heap.size + 1) (w.heap.size + 2) n a len cap l 0) := by
    have h2 := made_row ((w.alloc (.cells #[.int .i64 n, .slice a len cap] 71)).alloc (.cells #[.int .i64 0, .slice none 0 0] 71)) len l
    have e : ((w.alloc (.cells #[.int .i64 n, .slice a len cap] 71)).alloc (.cells #[.int .i64 0, .slice none 0 0] 71)).heap.size = w.heap.size + 2 := by simp
    rw [e] at h2
    refine Lib.hid ⟨((Box.make (Below.refl _ w) n a len cap).alloc _).alloc _, ?_, h2, by omega, by omega⟩
    exact (Below.heap_alloc _ _ _ (by simp)).trans (heap_alloc2_new _ _ _)
  go_enter Try.func32, Try.ntmps32
  go_wp2_with fail
  clear hmk
  obtain ⟨T, hT⟩ : ∃ T, T = w.heap.size + 2 := ⟨_, rfl⟩
  obtain ⟨rs, hrs⟩ : ∃ rs, rs = w.heap.size + 1 := ⟨_, rfl⟩
  rw [← hT, ← hrs] at HG0 ⊢
  clear hT hrs
  go_loopw [13] (fun j wr => ∃ (k : Nat), j = .int .i64 k ∧ k ≤ len ∧ Hid (TurnW w wr w.heap.size rs T n a len cap l k)) (fun j _ => len - (intOf j).toNat)
  case atStart => exact ⟨0, rfl, Nat.zero_le _, HG0⟩
  case round =>
    obtain ⟨k, rfl, hk, HX⟩ := hrel
    clear HG0
    by_cases hlt : k < len
    · obtain ⟨b, off, x, rfl, hb, hx, e0, e1, e2⟩ := (HX.out.box.arcs HL.out).at_ hlt
      have HXX := Lib.hid hx
      clear hx hb
      have HX1 := Lib.hid (HX.out.later ((Below.refl wr.heap.size wr).alloc (Nat.le_refl _) (.cells #[.int .i64 x.1, .int .i64 x.2.1, .int .i64 x.2.2] 88)))
      have HN := Lib.hid (HX1.out.set_ HXX.out hlt)
      have r0 := HX1.out.row.cell (i := k * 3) (by omega)
      have r1 := HX1.out.row.cell (i := k * 3 + 1) (by omega)
      have r2 := HX1.out.row.cell (i := k * 3 + 2) (by omega)
      have d0 := HX1.out.row.frozen (k * 3)
      have d1 := HX1.out.row.frozen (k * 3 + 1)
      have d2 := HX1.out.row.frozen (k * 3 + 2)
      obtain ⟨f, t, c⟩ := x
      simp only at e0 e1 e2 HN HX1 r0 r1 r2 d0 d1 d2
      go_wp2_with fail
      go_roundw
      case rel => exact ⟨k + 1, by go_num, by omega, HN⟩
      case measure => simp [intOf]; omega
    · have r0 := cell_of_row _ _ 0 _ _ _ HX.out.res
      have r1 := cell_of_row _ _ 1 _ _ _ HX.out.res
      have d0 := frozen_of_row _ _ 0 _ _ HX.out.res
      have d1 := frozen_of_row _ _ 1 _ _ HX.out.res
      have x0 := HX.out.box.c0
      go_wp2_with fail
      have hd := HX.out.done HLn.out (by omega)
      obtain ⟨g1, g2, g3, g4⟩ := hd
      refine bodyPost_ret (v := .agg #[.int .i64 n, .slice (some ⟨T, 0, none⟩) len len]) (results_cell_row rfl _ _ rs 71 _ (0, 0) _ rfl g1 Try.underlying71 rfl infoGraph) rfl ⟨T, rfl, g2, g3, g4⟩
end Go.Proofs.Ytchdpapaojkbhaa
end
