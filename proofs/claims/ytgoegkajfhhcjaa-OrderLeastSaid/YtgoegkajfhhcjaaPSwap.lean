/- The call Swap on a pile's items. -/
import Derived.Test.YtgoegkajfhhcjaaPLess
import Derived.RegionTactic
import Derived.BigRegion
namespace Go.Proofs.Ytgoegkajfhhcjaa
open Go.RowKit
open Go.Sort (swp HoldsK putRowK swap_worldK)

theorem free_key {w : World} {g : Nat} {d : Array It} (H : HoldsK encIt 2 w g 0 d) {i : Nat} (hi : i < d.size) : w.frozen? ⟨g, i * 2, none⟩ = false := by
  have := (H.cell hi (c := 0) (by omega)).2
  simpa using this
theorem free_id {w : World} {g : Nat} {d : Array It} (H : HoldsK encIt 2 w g 0 d) {i : Nat} (hi : i < d.size) : w.frozen? ⟨g, i * 2 + 1, none⟩ = false := by
  have := (H.cell hi (c := 1) (by omega)).2
  simpa using this
theorem cell_after (w : World) (a b : Addr) (v : Value) (h : w.cell? b = some v) (x : Value) : ∃ u, (w.setCell a x).cell? b = some u :=
  cell?_setCell_some h
theorem cell_after2 (w : World) (a b c : Addr) (v : Value) (h : w.cell? c = some v) (x y : Value) : ∃ u, ((w.setCell a x).setCell b y).cell? c = some u := by
  obtain ⟨u, hu⟩ := cell_after w a c v h x
  exact cell_after _ b c u hu y
theorem cell_after3 (w : World) (a b c d : Addr) (v : Value) (h : w.cell? d = some v) (x y z : Value) : ∃ u, (((w.setCell a x).setCell b y).setCell c z).cell? d = some u := by
  obtain ⟨u, hu⟩ := cell_after2 w a b d v h x y
  exact cell_after _ c d u hu z

theorem swap_end (w : World) (g : Nat) (d : Array It) (i j : Nat) (hi : i < d.size) (hj : j < d.size) (H : HoldsK encIt 2 w g 0 d) :
    ((((w.setCell ⟨g, i * 2, none⟩ (.int .i64 d[j]!.1)).setCell ⟨g, i * 2 + 1, none⟩ (.int .i64 d[j]!.2)).setCell ⟨g, j * 2, none⟩ (.int .i64 d[i]!.1)).setCell ⟨g, j * 2 + 1, none⟩ (.int .i64 d[i]!.2)).drew =
      putRowK encIt 2 (Sort.ahead w 1) g 0 (swp d i j) := by
  have h := swap_worldK encIt 2 (fun _ => rfl) w 0 1 g 0 d i j hi hj
  rw [show Sort.ahead w 0 = w from rfl, Sort.putRowK_self encIt 2 w g 0 d H] at h
  simp only [Nat.zero_add] at h
  rw [← h]
  rfl

set_option maxHeartbeats 2000000 in
set_option maxRecDepth 100000 in
theorem swap_any (g n cap i j : Nat) (d : Array It) (w : World) (hn : n = d.size) (hi : i < n) (hj : j < n) (H : HoldsK encIt 2 w g 0 d) :
    Calls Try.prog 62 #[.slice (some ⟨g, 0, none⟩) n cap, .int .i64 i, .int .i64 j] w fun e w' => e = .returned (.tuple #[]) ∧ ∃ q, w' = putRowK encIt 2 (Sort.ahead w q) g 0 (swp d i j) := by
  have c1 := cell_key H (i := i) (by omega)
  have c2 := cell_id H (i := i) (by omega)
  have c3 := cell_key H (i := j) (by omega)
  have c4 := cell_id H (i := j) (by omega)
  have f1 := free_key H (i := i) (by omega)
  have f2 := free_id H (i := i) (by omega)
  have f3 := free_key H (i := j) (by omega)
  have f4 := free_id H (i := j) (by omega)
  obtain ⟨u1, h1⟩ := cell_after w ⟨g, i * 2, none⟩ ⟨g, i * 2 + 1, none⟩ (.int .i64 d[i]!.2) c2 (.int .i64 d[j]!.1)
  obtain ⟨u2, h2⟩ := cell_after2 w ⟨g, i * 2, none⟩ ⟨g, i * 2 + 1, none⟩ ⟨g, j * 2, none⟩ _ c3 (.int .i64 d[j]!.1) (.int .i64 d[j]!.2)
  obtain ⟨u3, h3⟩ := cell_after3 w ⟨g, i * 2, none⟩ ⟨g, i * 2 + 1, none⟩ ⟨g, j * 2, none⟩ ⟨g, j * 2 + 1, none⟩ _ c4 (.int .i64 d[j]!.1) (.int .i64 d[j]!.2) (.int .i64 d[i]!.1)
  have HN := Lib.hid hn; clear hn
  have HH := Lib.hid H; clear H
  have i1 : (i : Int) < (n : Int) := by omega
  have j1 : (j : Int) < (n : Int) := by omega
  go_enter Try.func62, Try.ntmps62
  go_wp2_with fail
  go_region
  go_end0
  refine ⟨rfl, 1, ?_⟩
  exact swap_end w g d i j (by have := HN.out; omega) (by have := HN.out; omega) HH.out
end Go.Proofs.Ytgoegkajfhhcjaa
