/- Package path: check; what the calls answer where nothing can be told. -/
import Derived.Test.YtmmhdjibigopfaaPathSpec
namespace Go.Proofs.Ytmmhdjibigopfaa
open Go.RowKit

variable {len : Nat} {l : List Ar}
theorem fromErr_bad {n s : Int} (h : checkV n l ≠ 0) : fromErr n l s = checkV n l := by rw [fromErr, if_neg h]
theorem fromErr_in {n s : Int} (h : checkV n l = 0) (h2 : 0 ≤ s ∧ s < n) : fromErr n l s = 0 := by rw [fromErr, if_pos h, if_pos h2]
theorem fromErr_out {n s : Int} (h : checkV n l = 0) (h2 : ¬ (0 ≤ s ∧ s < n)) : fromErr n l s = 2 := by rw [fromErr, if_pos h, if_neg h2]
theorem ret_i {x y : Int} (h : x = y) : Ending.returned (.int .i64 x) = .returned (.int .i64 y) := by rw [h]

set_option maxHeartbeats 1000000 in
theorem pcheck_any (n s : Int) (a : Option Addr) (cap : Nat) (w : World) (hl : IsArcs w.heap.size w a len l) :
    Calls Try.prog 20 #[.agg #[.int .i64 n, .slice a len cap], .int .i64 s] w fun e w' => e = .returned (.int .i64 (fromErr n l s)) ∧ Below w.heap.size w w' := by
  have HG := Lib.hid (Box.make (Below.refl _ w) n a len cap)
  have HL := Lib.hid hl; clear hl
  by_cases hc : checkV n l = 0
  · by_cases hs : 0 ≤ s ∧ s < n
    · have HE := Lib.hid (fromErr_in hc hs)
      have HC := Lib.hid hc
      have HS := Lib.hid hs
      clear hc hs
      go_enter Try.func20, Try.ntmps20
      go_wp2_with (first
        | (go_at_call 15; refine (check_any n cap a _ (HG.out.arcsHere HL.out)).mono ?_; rw [HC.out]; rintro e w1 ⟨rfl, hb1⟩; have HG1 := Lib.hid (HG.out.later hb1); have x0 := HG1.out.c0; have x1 := HG1.out.c1; clear hb1)
        | (go_at_call 25; refine (has_yes HS.out a len cap _).mono ?_; rintro e w2 ⟨rfl, hb2⟩; have HG2 := Lib.hid (HG1.out.later hb2); clear hb2))
      go_ret
      exact ⟨ret_i HE.out.symm, HG2.out.below⟩
    · have HE := Lib.hid (fromErr_out hc hs)
      have HC := Lib.hid hc
      have HS := Lib.hid hs
      clear hc hs
      go_enter Try.func20, Try.ntmps20
      go_wp2_with (first
        | (go_at_call 15; refine (check_any n cap a _ (HG.out.arcsHere HL.out)).mono ?_; rw [HC.out]; rintro e w1 ⟨rfl, hb1⟩; have HG1 := Lib.hid (HG.out.later hb1); have x0 := HG1.out.c0; have x1 := HG1.out.c1; clear hb1)
        | (go_at_call 25; refine (has_no HS.out a len cap _).mono ?_; rintro e w2 ⟨rfl, hb2⟩; have HG2 := Lib.hid (HG1.out.later hb2); clear hb2))
      go_ret
      exact ⟨ret_i HE.out.symm, HG2.out.below⟩
  · have HE := Lib.hid (fromErr_bad (s := s) hc)
    have hcb : (checkV n l != 0) = true := by simpa using hc
    have HCA := Lib.hid (fun (W : World) (h : IsArcs W.heap.size W a len l) => check_any n cap a W h)
    generalize checkV n l = v at *
    clear hc
    go_enter Try.func20, Try.ntmps20
    go_wp2_with (go_at_call 15; refine (HCA.out _ (HG.out.arcsHere HL.out)).mono ?_; rintro e w1 ⟨rfl, hb1⟩; have HG1 := Lib.hid (HG.out.later hb1); have x0 := HG1.out.c0; have x1 := HG1.out.c1; clear hb1)
    go_ret
    exact ⟨ret_i HE.out.symm, HG1.out.below⟩

/-- A tree's cells, where both are stored. -/
theorem tree_stored {w : World} {r : Nat} {u v : Value} {T : TypeId} (h : w.heap[r]? = some (.cells #[u, v] T (0, 0))) (x y : Value) :
    ((w.setCell ⟨r, 0, none⟩ x).setCell ⟨r, 1, none⟩ y).heap[r]? = some (.cells #[x, y] T (0, 0)) ∧ (w.setCell ⟨r, 0, none⟩ x).cell? ⟨r, 0, none⟩ = some x ∧ ((w.setCell ⟨r, 0, none⟩ x).setCell ⟨r, 1, none⟩ y).cell? ⟨r, 1, none⟩ = some y := by
  have h1 := heap_setCell_same w r 0 _ _ x h
  have h2 := heap_setCell_same _ r 1 _ _ y h1
  exact ⟨h2, by simp [World.cell?, h1], by simp [World.cell?, h2]⟩
theorem infoTreeP : (Try.prog.info? 31).map (fun i => i.size) = some 2 := by kernel_rfl
set_option maxHeartbeats 1000000 in
theorem from_bad (n s : Int) (len cap : Nat) (l : List Ar) (a : Option Addr) (w : World) (he : fromErr n l s ≠ 0) (hl : IsArcs w.heap.size w a len l) :
    Calls Try.prog 9 #[.agg #[.int .i64 n, .slice a len cap], .int .i64 s] w fun e w' => Below w.heap.size w w' ∧
      ∃ a1 c1 a2 c2, e = .returned (.tuple #[.agg #[.slice a1 0 c1, .slice a2 0 c2], .int .i64 (fromErr n l s)]) := by
  have HG := Lib.hid (Box.make (Below.refl _ w) n a len cap)
  have HL := Lib.hid hl; clear hl
  have heb : (fromErr n l s != 0) = true := by simpa using he
  have HCA := Lib.hid (fun (W : World) (h : IsArcs W.heap.size W a len l) => pcheck_any n s a cap W h)
  generalize fromErr n l s = v at *
  clear he
  have HG0 := Lib.hid (HG.out.alloc (.cells #[.slice none 0 0, .slice none 0 0] 31))
  go_enter Try.func9, Try.ntmps9
  go_wp2_with (go_at_call 20; go_loud (refine (HCA.out _ (HG0.out.arcsHere HL.out)).mono ?_; rintro e w1 ⟨rfl, hb1⟩; have HG1 := Lib.hid (HG0.out.later hb1); have HR1 := Lib.hid ((hb1.block (w.heap.size + 1) (by simp)).trans (heap_alloc2_new w (.cells #[.int .i64 n, .slice a len cap] 26) (.cells #[.slice none 0 0, .slice none 0 0] 31))); have r0 : w1.cell? ⟨w.heap.size + 1, 0, none⟩ = some (.slice none 0 0) := (by simp [World.cell?, HR1.out]); have r1 : w1.cell? ⟨w.heap.size + 1, 1, none⟩ = some (.slice none 0 0) := (by simp [World.cell?, HR1.out]); have r2 : ∀ k, w1.frozen? ⟨w.heap.size + 1, k, none⟩ = false := (fun k => by simp [World.frozen?, HR1.out]); have hz := HG1.out.lt; clear hb1))
  have HB2 := Lib.hid ((HG1.out.below.setCell (p := ⟨w.heap.size + 1, 0, none⟩) (by simp) (.slice none 0 0)).setCell (p := ⟨w.heap.size + 1, 1, none⟩) (by simp) (.slice none 0 0))
  refine bodyPost_ret (v := .tuple #[.agg #[.slice none 0 0, .slice none 0 0], .int .i64 v]) ?_ rfl ⟨HB2.out, _, _, _, _, rfl⟩
  obtain ⟨_, q0, q1⟩ := tree_stored HR1.out (.slice none 0 0) (.slice none 0 0)
  simp [results, Try.results9, go_sem, q0, q1]
set_option maxHeartbeats 1000000 in
theorem near_bad (n s : Int) (len cap : Nat) (l : List Ar) (a : Option Addr) (w : World) (he : fromErr n l s ≠ 0) (hl : IsArcs w.heap.size w a len l) :
    Calls Try.prog 16 #[.agg #[.int .i64 n, .slice a len cap], .int .i64 s] w fun e w' => Below w.heap.size w w' ∧
      ∃ a1 c1 a2 c2, e = .returned (.tuple #[.agg #[.slice a1 0 c1, .slice a2 0 c2], .int .i64 (fromErr n l s)]) := by
  have HG := Lib.hid (Box.make (Below.refl _ w) n a len cap)
  have HL := Lib.hid hl; clear hl
  have heb : (fromErr n l s != 0) = true := by simpa using he
  have HCA := Lib.hid (fun (W : World) (h : IsArcs W.heap.size W a len l) => pcheck_any n s a cap W h)
  generalize fromErr n l s = v at *
  clear he
  have HG0 := Lib.hid (HG.out.alloc (.cells #[.slice none 0 0, .slice none 0 0] 31))
  go_enter Try.func16, Try.ntmps16
  go_wp2_with (go_at_call 20; refine (HCA.out _ (HG0.out.arcsHere HL.out)).mono ?_; rintro e w1 ⟨rfl, hb1⟩; have HG1 := Lib.hid (HG0.out.later hb1); have HR1 := Lib.hid ((hb1.block (w.heap.size + 1) (by simp)).trans (heap_alloc2_new w (.cells #[.int .i64 n, .slice a len cap] 26) (.cells #[.slice none 0 0, .slice none 0 0] 31))); have r0 : w1.cell? ⟨w.heap.size + 1, 0, none⟩ = some (.slice none 0 0) := (by simp [World.cell?, HR1.out]); have r1 : w1.cell? ⟨w.heap.size + 1, 1, none⟩ = some (.slice none 0 0) := (by simp [World.cell?, HR1.out]); have r2 : ∀ k, w1.frozen? ⟨w.heap.size + 1, k, none⟩ = false := (fun k => by simp [World.frozen?, HR1.out]); have hz := HG1.out.lt; clear hb1)
  have HB2 := Lib.hid ((HG1.out.below.setCell (p := ⟨w.heap.size + 1, 0, none⟩) (by simp) (.slice none 0 0)).setCell (p := ⟨w.heap.size + 1, 1, none⟩) (by simp) (.slice none 0 0))
  refine bodyPost_ret (v := .tuple #[.agg #[.slice none 0 0, .slice none 0 0], .int .i64 v]) ?_ rfl ⟨HB2.out, _, _, _, _, rfl⟩
  obtain ⟨_, q0, q1⟩ := tree_stored HR1.out (.slice none 0 0) (.slice none 0 0)
  simp [results, Try.results16, go_sem, q0, q1]
theorem cycle_bad (n s : Int) (len cap : Nat) (l : List Ar) (a : Option Addr) (w : World) (he : fromErr n l s ≠ 0) (hl : IsArcs w.heap.size w a len l) :
    Calls Try.prog 12 #[.agg #[.int .i64 n, .slice a len cap], .int .i64 s] w fun e w' => Below w.heap.size w w' ∧ ∃ a1 c1, e = .returned (.slice a1 0 c1) := by
  have HG := Lib.hid (Box.make (Below.refl _ w) n a len cap)
  have HL := Lib.hid hl; clear hl
  have heb : (fromErr n l s != 0) = true := by simpa using he
  have HCA := Lib.hid (fun (W : World) (h : IsArcs W.heap.size W a len l) => pcheck_any n s a cap W h)
  generalize fromErr n l s = v at *
  clear he
  go_enter Try.func12, Try.ntmps12
  go_wp2_with (go_at_call 20; refine (HCA.out _ (HG.out.arcsHere HL.out)).mono ?_; rintro e w1 ⟨rfl, hb1⟩; have HG1 := Lib.hid (HG.out.later hb1); clear hb1)
  go_ret
  exact ⟨HG1.out.below, _, _, rfl⟩
end Go.Proofs.Ytmmhdjibigopfaa
