/- Package graph: Turned: the walk. -/
import Derived.Test.YtgoegkajfhhcjaaTurned
namespace Go.Proofs.Ytgoegkajfhhcjaa
open Go.RowKit

variable {w wr : World} {a : Option Addr} {len cap g T rs : Nat} {l : List Ar} {n : Int}
theorem infoArc : (Try.prog.info? 35).map (fun i => (i.zero, i.size, i.bytes)) = some (some (.agg #[.int .i64 0, .int .i64 0, .int .i64 0]), 3, 24) := by kernel_rfl
theorem infoGraph : (Try.prog.info? 26).map (fun i => i.size) = some 2 := by kernel_rfl
theorem make_arcs (len : Nat) (h : len ≤ 1000000) (w : World) :
    (Instr.makeSlice 24 (.int .i64 (len : Int)) (.int .i64 (len : Int))).run Try.prog w = .ok (.slice (some ⟨w.heap.size, 0, none⟩) len len) (w.alloc (.cells (madeCells #[.int .i64 0, .int .i64 0, .int .i64 0] (len * 3)) 35)) := by
  obtain ⟨i, hi, hz, hs, hb⟩ := info_parts infoArc
  have hr := run_make (P := Try.prog) w 24 35 i _ Try.underlying24 hi hz .i64 .i64 (len : Int) (len : Int) (by omega) (Int.le_refl _) (by rw [hb]; omega) (by omega)
  simpa [hs, Value.cells] using hr
theorem made_row (w : World) (len : Nat) (l : List Ar) : (w.alloc (.cells (madeCells #[.int .i64 0, .int .i64 0, .int .i64 0] (len * 3)) 35)).rowIs w.heap.size 35 (len * 3) (turnF l 0) := by
  have h := World.rowIs_alloc w (madeCells #[.int .i64 0, .int .i64 0, .int .i64 0] (len * 3)) 35 (turnF l 0) (fun j hj => by
    rw [size_madeCells] at hj
    have e : turnF l 0 j = .int .i64 0 := by simp [turnF]
    rw [e]
    have hm : j % 3 = 0 ∨ j % 3 = 1 ∨ j % 3 = 2 := by omega
    rcases hm with hm | hm | hm <;> simp [madeCells, hj, hm])
  rwa [size_madeCells] at h

/-- The result is written: what stands then. -/
theorem TurnW.done {k : Nat} (h : TurnW w wr g rs T n a len cap l k) (hl : l.length = len) (hk : len ≤ k) :
    (((wr.setCell ⟨rs, 0, none⟩ (.int .i64 n)).setCell ⟨rs, 1, none⟩ (.slice (some ⟨T, 0, none⟩) len len)).heap[rs]? = some (.cells #[.int .i64 n, .slice (some ⟨T, 0, none⟩) len len] 26 (0, 0))) ∧
    IsArcs ((wr.setCell ⟨rs, 0, none⟩ (.int .i64 n)).setCell ⟨rs, 1, none⟩ (.slice (some ⟨T, 0, none⟩) len len)).heap.size ((wr.setCell ⟨rs, 0, none⟩ (.int .i64 n)).setCell ⟨rs, 1, none⟩ (.slice (some ⟨T, 0, none⟩) len len)) (some ⟨T, 0, none⟩) len (turned l) ∧
    w.heap.size ≤ T ∧ Below w.heap.size w ((wr.setCell ⟨rs, 0, none⟩ (.int .i64 n)).setCell ⟨rs, 1, none⟩ (.slice (some ⟨T, 0, none⟩) len len)) := by
  have h1 := h.lt1
  have h2 := h.lt2
  have h3 := h.box.ge
  have hm : Mod (fun b => b = rs) wr ((wr.setCell ⟨rs, 0, none⟩ (.int .i64 n)).setCell ⟨rs, 1, none⟩ (.slice (some ⟨T, 0, none⟩) len len)) :=
    ((Mod.refl (fun b => b = rs) wr).setCell (p := ⟨rs, 0, none⟩) (.inr rfl) _).setCell (p := ⟨rs, 1, none⟩) (.inr rfl) _
  refine ⟨?_, ?_, by omega, ((Mod.of_below (fun b => b = rs) h.box.below).trans hm).below (Nat.le_refl _) (fun k hk => by omega)⟩
  · exact heap_setCell_same _ _ _ _ _ _ (heap_setCell_same _ _ _ _ _ _ h.res)
  · have ha := h.arcs hl hk
    refine ⟨ha.1, ?_⟩
    rcases ha.2 with h0 | ⟨b, off, e, hb, hr⟩
    · exact .inl h0
    · simp only [Option.some.injEq, Addr.mk.injEq, and_true] at e
      obtain ⟨e1, e2⟩ := e
      subst e1 e2
      exact .inr ⟨T, 0, rfl, Nat.lt_of_lt_of_le hb hm.size, hr.of_block (hm.block T hb (by omega))⟩

set_option maxHeartbeats 1000000 in
set_option maxRecDepth 100000 in
theorem turned_any (n : Int) (hlen : len ≤ 1000000) (a : Option Addr) (cap : Nat) (w : World) (hl : IsArcs w.heap.size w a len l) :
    Calls Try.prog 27 #[.agg #[.int .i64 n, .slice a len cap]] w fun e w' => ∃ T, e = .returned (.agg #[.int .i64 n, .slice (some ⟨T, 0, none⟩) len len]) ∧ IsArcs w'.heap.size w' (some ⟨T, 0, none⟩) len (turned l) ∧ w.heap.size ≤ T ∧ Below w.heap.size w w' := by
  have hmk := make_arcs len hlen
  have HLn : Hid (l.length = len) := Lib.hid hl.1
  have HL := Lib.hid hl; clear hl
  have HG0 : Hid (TurnW w (((w.alloc (.cells #[.int .i64 n, .slice a len cap] 26)).alloc (.cells #[.int .i64 0, .slice none 0 0] 26)).alloc (.cells (madeCells #[.int .i64 0, .int .i64 0, .int .i64 0] (len * 3)) 35)) w.heap.size (w.heap.size + 1) (w.heap.size + 2) n a len cap l 0) := by
    have h2 := made_row ((w.alloc (.cells #[.int .i64 n, .slice a len cap] 26)).alloc (.cells #[.int .i64 0, .slice none 0 0] 26)) len l
    have e : ((w.alloc (.cells #[.int .i64 n, .slice a len cap] 26)).alloc (.cells #[.int .i64 0, .slice none 0 0] 26)).heap.size = w.heap.size + 2 := by simp
    rw [e] at h2
    refine Lib.hid ⟨((Box.make (Below.refl _ w) n a len cap).alloc _).alloc _, ?_, h2, by omega, by omega⟩
    exact (Below.heap_alloc _ _ _ (by simp)).trans (heap_alloc2_new _ _ _)
  go_enter Try.func27, Try.ntmps27
  go_wp2_with fail
  clear hmk
  obtain ⟨T, hT⟩ : ∃ T, T = w.heap.size + 2 := ⟨_, rfl⟩
  obtain ⟨rs, hrs⟩ : ∃ rs, rs = w.heap.size + 1 := ⟨_, rfl⟩
  rw [← hT, ← hrs] at HG0 ⊢
  clear hT hrs
  go_loopw [13] (fun j wr => ∃ (k : Nat), j = .int .i64 k ∧ k ≤ len ∧ Hid (TurnW w wr w.heap.size rs T n a len cap l k)) (fun j _ => len - (intOf j).toNat)
  case atStart => exact ⟨0, rfl, Nat.zero_le _, HG0⟩
  case round =>
    obtain ⟨k, rfl, hk, HX⟩ := hrel
    clear HG0
    by_cases hlt : k < len
    · obtain ⟨b, off, x, rfl, hb, hx, e0, e1, e2⟩ := (HX.out.box.arcs HL.out).at_ hlt
      have HXX := Lib.hid hx
      clear hx hb
      have HX1 := Lib.hid (HX.out.later ((Below.refl wr.heap.size wr).alloc (Nat.le_refl _) (.cells #[.int .i64 x.1, .int .i64 x.2.1, .int .i64 x.2.2] 35)))
      have HN := Lib.hid (HX1.out.set_ HXX.out hlt)
      have r0 := HX1.out.row.cell (i := k * 3) (by omega)
      have r1 := HX1.out.row.cell (i := k * 3 + 1) (by omega)
      have r2 := HX1.out.row.cell (i := k * 3 + 2) (by omega)
      have d0 := HX1.out.row.frozen (k * 3)
      have d1 := HX1.out.row.frozen (k * 3 + 1)
      have d2 := HX1.out.row.frozen (k * 3 + 2)
      obtain ⟨f, t, c⟩ := x
      simp only at e0 e1 e2 HN HX1 r0 r1 r2 d0 d1 d2
      go_wp2_with fail
      go_roundw
      case rel => exact ⟨k + 1, by go_num, by omega, HN⟩
      case measure => simp [intOf]; omega
    · have r0 := cell_of_row _ _ 0 _ _ _ HX.out.res
      have r1 := cell_of_row _ _ 1 _ _ _ HX.out.res
      have d0 := frozen_of_row _ _ 0 _ _ HX.out.res
      have d1 := frozen_of_row _ _ 1 _ _ HX.out.res
      have x0 := HX.out.box.c0
      go_wp2_with fail
      have hd := HX.out.done HLn.out (by omega)
      obtain ⟨g1, g2, g3, g4⟩ := hd
      refine bodyPost_ret (v := .agg #[.int .i64 n, .slice (some ⟨T, 0, none⟩) len len]) (results_cell_row rfl _ _ rs 26 _ (0, 0) _ rfl g1 Try.underlying26 rfl infoGraph) rfl ⟨T, rfl, g2, g3, g4⟩
end Go.Proofs.Ytgoegkajfhhcjaa
