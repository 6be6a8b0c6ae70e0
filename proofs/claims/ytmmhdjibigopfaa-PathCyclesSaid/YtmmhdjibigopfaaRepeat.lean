/- slices.Repeat of one number. -/
import Derived.Test.YtmmhdjibigopfaaTight
import Derived.Test.YtmmhdjibigopfaaShelf
import Derived.Laws.CopyOwn
import Derived.Deep.RegionLaw
namespace Go.Proofs.Ytmmhdjibigopfaa
open Go.RowKit

/-- The first m of N are x. -/
def fillL (N m : Nat) (x : Value) : List Value := List.replicate m x ++ List.replicate (N - m) (.int .i64 0)
theorem fillL_length {N m : Nat} {x : Value} (h : m ≤ N) : (fillL N m x).length = N := by simp [fillL]; omega
theorem fillL_get {N m j : Nat} {x : Value} (h : j < m) : (fillL N m x)[j]? = some x := by
  rw [fillL, List.getElem?_append_left (by simpa using h)]
  simp [h]
theorem fillL_splice {N m k : Nat} {x : Value} (h : m + k ≤ N) : splice (fillL N m x) m (List.replicate k x) = fillL N (m + k) x := by
  rw [splice, fillL, List.take_append_of_le_length (by simp), List.take_of_length_le (by simp), List.drop_append, List.drop_of_length_le (by simp), fillL]
  simp only [List.nil_append, List.length_replicate, List.drop_replicate]
  rw [← List.append_assoc, List.replicate_append_replicate]
  congr 2
  omega
theorem fillL_rowF (N : Nat) (x : Int) : fillL N N (.int .i64 x) = rowF N (fun _ => x) := by
  simp [fillL, rowF, List.map_const']
theorem fillL_made (N : Nat) (x : Value) : madeCells #[.int .i64 0] N = (fillL N 0 x).toArray := by
  apply Array.toList_inj.1
  rw [toList_madeCells_one]
  simp [fillL]
theorem one_fill (k : Nat) (x : Int) : ∀ v ∈ List.replicate k (Value.int .i64 x), v.oneCell' = true := by
  intro v hv
  rw [(List.mem_replicate.1 hv).2]
  rfl
theorem owns_fill {w : World} {g N B : Nat} {T : TypeId} {x : Int} (h : w.heap[g]? = some (.cells (fillL N N (.int .i64 x)).toArray T (0, 0))) (hB : B ≤ g) (hN : N ≤ maxLen) : w.ownsRow B T 1 (.slice (some ⟨g, 0, none⟩) N N) N (rowF N (fun _ => x)) := by
  rw [fillL_rowF] at h
  refine ⟨by simp [rowF], .inr ⟨g, N, _, rfl, hB, h, Nat.le_refl _, hN, by simp [rowF], ?_⟩⟩
  rw [List.take_of_length_le (by simp [rowF])]
theorem one_at {w : World} {b : Nat} {v : Value} (h : w.cell? ⟨b, 0, none⟩ = some v) : ∀ (j : Nat) (u : Value), [v][j]? = some u → w.cell? ((⟨b, 0, none⟩ : Addr).add j) = some u := fun j u hj => by
  match j, hj with
  | 0, hj =>
    simp at hj
    subst hj
    rw [Addr.add_lit]
    exact h
/-- copy of one number to the head of a row that was just made. -/
theorem copy_first {w : World} {dT sT ty elem : TypeId} {g N b : Nat} {x : Int} (h1 : 1 ≤ N) (hu : (Try.prog).underlying dT = some (.slice elem)) (hs : (Try.prog.info? elem).map (·.size) = some 1)
    (hg : w.heap[g]? = some (.cells (fillL N 0 (.int .i64 x)).toArray elem (0, 0))) (hc : w.cell? ⟨b, 0, none⟩ = some (.int .i64 x)) :
    ∃ w4, (Builtin.copy_ #[dT, sT] ty #[.slice (some ⟨g, 0, none⟩) N N, .slice (some ⟨b, 0, none⟩) 1 1]).run Try.prog w = .ok (.int .i64 1) w4 ∧ w4.heap[g]? = some (.cells (fillL N 1 (.int .i64 x)).toArray elem (0, 0)) ∧ Below g w w4 := by
  have hr := run_copy_row (P := Try.prog) w dT sT ty elem g 0 N N ⟨b, 0, none⟩ 1 1 _ elem [.int .i64 x] hu hs hg (Nat.min_eq_left h1).symm (one_at hc) (by simp [fillL]; omega) (one_fill 1 x)
  refine ⟨_, hr, ?_, below_setRow (Below.refl _ _) (Nat.le_refl _) _⟩
  have := fillL_splice (N := N) (m := 0) (k := 1) (x := .int .i64 x) (by omega)
  rw [setRow_heap _ _ _ _ _ _ hg, ← this]
  simp [splice]
/-- copy of what is there already, behind it. -/
theorem copy_on {w : World} {dT sT ty elem : TypeId} {g N m k : Nat} {x : Int} (hk : k = Nat.min m (N - m)) (hm : m ≤ N) (hu : (Try.prog).underlying dT = some (.slice elem)) (hs : (Try.prog.info? elem).map (·.size) = some 1)
    (hg : w.heap[g]? = some (.cells (fillL N m (.int .i64 x)).toArray elem (0, 0))) :
    ∃ w4, (Builtin.copy_ #[dT, sT] ty #[.slice (some ⟨g, m, none⟩) (N - m) (N - m), .slice (some ⟨g, 0, none⟩) m N]).run Try.prog w = .ok (.int .i64 (k : Int)) w4 ∧ w4.heap[g]? = some (.cells (fillL N (m + k) (.int .i64 x)).toArray elem (0, 0)) ∧ Below g w w4 := by
  have hkm : k ≤ m := by rw [hk]; exact Nat.min_le_left _ _
  have hkn : k ≤ N - m := by rw [hk]; exact Nat.min_le_right _ _
  have hr := run_copy_row (P := Try.prog) w dT sT ty elem g m (N - m) (N - m) ⟨g, 0, none⟩ m N _ elem (List.replicate k (.int .i64 x)) hu hs hg (by rw [List.length_replicate]; exact hk) (fun j v hj => by
    have hjk : j < k := by have := (List.getElem?_eq_some_iff.1 hj).1; simpa using this
    simp [hjk] at hj
    subst hj
    rw [Addr.add_lit, Nat.zero_add]
    have e : (fillL N m (.int .i64 x))[j]? = some (.int .i64 x) := fillL_get (by omega)
    simp [World.cell?, hg, e]) (by rw [List.size_toArray, fillL_length hm, List.length_replicate]; omega) (one_fill k x)
  rw [List.length_replicate] at hr
  refine ⟨_, hr, ?_, below_setRow (Below.refl _ _) (Nat.le_refl _) _⟩
  have := fillL_splice (N := N) (m := m) (k := k) (x := .int .i64 x) (by omega)
  rw [setRow_heap _ _ _ _ _ _ hg, ← this]
  simp [splice]
theorem infoLongs1 : (Try.prog.info? 2).map (·.size) = some 1 := by kernel_rfl
theorem infoInts1 : (Try.prog.info? 3).map (·.size) = some 1 := by kernel_rfl

set_option maxHeartbeats 2000000 in
set_option maxRecDepth 100000 in
theorem repLongs (x : Int) (N b : Nat) (w : World) (h1 : 1 ≤ N) (hN : N ≤ 1000) (hx : w.cell? ⟨b, 0, none⟩ = some (.int .i64 x)) :
    Calls Try.prog 37 #[.slice (some ⟨b, 0, none⟩) 1 1, .int .i64 (N : Int)] w fun e w' => ∃ g, e = .returned (.slice (some ⟨g, 0, none⟩) N N) ∧ LongRow w' w.heap.size (.slice (some ⟨g, 0, none⟩) N N) N (fun _ => x) ∧ Below w.heap.size w w' := by
  have hmk := run_make_row' (P := Try.prog) 28 2 (.int .i64 0) 8 Try.underlying28 infoLong rfl .i64 .i64 N (by omega) (by omega)
  have hm := fun (w : World) => Try.bits_Mul 1 N (by omega) (by omega) w
  have e1 : 1 * N / 18446744073709551616 = 0 := by omega
  have e2 : 1 * N % 18446744073709551616 = N := by omega
  rw [e1, e2] at hm
  have HM := Lib.hid hm
  clear hm e1 e2
  have hbw : b < w.heap.size := World.block_lt_of_cell? w _ hx
  have HG0 : Hid ((w.alloc (.cells (madeCells #[.int .i64 0] N) 2)).heap[w.heap.size]? = some (.cells (fillL N 0 (.int .i64 x)).toArray 2 (0, 0))) := Lib.hid (by rw [← fillL_made]; exact heap_alloc_new _ _)
  have HC0 : Hid ((w.alloc (.cells (madeCells #[.int .i64 0] N) 2)).cell? ⟨b, 0, none⟩ = some (.int .i64 x)) := Lib.hid ((World.cell?_alloc_past _ _ _ hbw).trans hx)
  clear hx
  have hd0 : decide ((N : Int) < 0) = false := by simp
  have hd1 : decide ((9223372036854775807 : Int) < (N : Int)) = false := by simp; omega
  have HB0 : Hid (Below w.heap.size w (w.alloc (.cells (madeCells #[.int .i64 0] N) 2))) := Lib.hid ((Below.refl _ _).alloc (Nat.le_refl _) _)
  obtain ⟨g, hg⟩ : ∃ g, g = w.heap.size := ⟨_, rfl⟩
  have HGG := Lib.hid hg; clear hg
  obtain ⟨w4, hcp, hg4, hb4⟩ := copy_first (dT := 28) (sT := 28) (ty := 3) h1 Try.underlying28 infoLongs1 HG0.out HC0.out
  have HG4 : Hid (w4.heap[g]? = some (.cells (fillL N 1 (.int .i64 x)).toArray 2 (0, 0)) ∧ Below g w w4) := Lib.hid ⟨by rw [HGG.out]; exact hg4, by rw [HGG.out]; exact HB0.out.trans hb4⟩
  clear hg4 hb4 HG0 HC0 HB0
  go_enter Try.func37, Try.ntmps37
  go_wp2_with (go_at_call 43; refine (HM.out _).mono ?_; rintro e w' ⟨rfl, rfl⟩)
  rw [← HGG.out]
  go_loopw [8] (fun i wr => ∃ m : Nat, i = .int .i64 m ∧ 1 ≤ m ∧ m ≤ N ∧ Hid (wr.heap[g]? = some (.cells (fillL N m (.int .i64 x)).toArray 2 (0, 0)) ∧ Below g w' wr)) (fun i _ => N - (intOf i).toNat)
  case atStart => exact ⟨1, rfl, Nat.le_refl _, h1, HG4⟩
  case round =>
    obtain ⟨m, rfl, hm1, hm2, HX⟩ := hrel
    clear HG4 hcp
    by_cases hlt : m < N
    · obtain ⟨k, hk⟩ : ∃ k, k = Nat.min m (N - m) := ⟨_, rfl⟩
      have hkm : k ≤ m := by rw [hk]; exact Nat.min_le_left _ _
      have hkn : k ≤ N - m := by rw [hk]; exact Nat.min_le_right _ _
      have hk1 : 1 ≤ k := by rw [hk]; exact Nat.le_min.2 ⟨hm1, by omega⟩
      obtain ⟨w5, hcp, hg5, hb5⟩ := copy_on (w := wr.drew) (dT := 28) (sT := 28) (ty := 3) hk hm2 Try.underlying28 infoLongs1 HX.out.1
      have HG5 : Hid (w5.heap[g]? = some (.cells (fillL N (m + k) (.int .i64 x)).toArray 2 (0, 0)) ∧ Below g w' w5) := Lib.hid ⟨hg5, HX.out.2.drew.trans hb5⟩
      clear hg5 hb5 hk HX
      have hsum : IntKind.i64.wrap ((m : Int) + (k : Int)) = (m : Int) + (k : Int) := by rw [IntKind.wrap_i64]; omega
      have hne : ¬ N = m := by omega
      go_wp2_with fail
      go_region
      go_wp2_with fail
      go_roundw
      case rel => exact ⟨m + k, by go_num, by omega, by omega, HG5⟩
      case measure => simp [intOf]; omega
    · obtain rfl : m = N := by omega
      go_wp2_with fail
      go_ret
      exact ⟨g, rfl, owns_fill HX.out.1 (by rw [HGG.out]; exact Nat.le_refl _) (by unfold maxLen; omega), by rw [← HGG.out]; exact HX.out.2⟩

set_option maxHeartbeats 2000000 in
set_option maxRecDepth 100000 in
theorem repInts (x : Int) (N b : Nat) (w : World) (h1 : 1 ≤ N) (hN : N ≤ 1000) (hx : w.cell? ⟨b, 0, none⟩ = some (.int .i64 x)) :
    Calls Try.prog 38 #[.slice (some ⟨b, 0, none⟩) 1 1, .int .i64 (N : Int)] w fun e w' => ∃ g, e = .returned (.slice (some ⟨g, 0, none⟩) N N) ∧ IntRow w' w.heap.size (.slice (some ⟨g, 0, none⟩) N N) N (fun _ => x) ∧ Below w.heap.size w w' := by
  have hmk := run_make_row' (P := Try.prog) 29 3 (.int .i64 0) 8 Try.underlying29 infoInt rfl .i64 .i64 N (by omega) (by omega)
  have hm := fun (w : World) => Try.bits_Mul 1 N (by omega) (by omega) w
  have e1 : 1 * N / 18446744073709551616 = 0 := by omega
  have e2 : 1 * N % 18446744073709551616 = N := by omega
  rw [e1, e2] at hm
  have HM := Lib.hid hm
  clear hm e1 e2
  have hbw : b < w.heap.size := World.block_lt_of_cell? w _ hx
  have HG0 : Hid ((w.alloc (.cells (madeCells #[.int .i64 0] N) 3)).heap[w.heap.size]? = some (.cells (fillL N 0 (.int .i64 x)).toArray 3 (0, 0))) := Lib.hid (by rw [← fillL_made]; exact heap_alloc_new _ _)
  have HC0 : Hid ((w.alloc (.cells (madeCells #[.int .i64 0] N) 3)).cell? ⟨b, 0, none⟩ = some (.int .i64 x)) := Lib.hid ((World.cell?_alloc_past _ _ _ hbw).trans hx)
  clear hx
  have hd0 : decide ((N : Int) < 0) = false := by simp
  have hd1 : decide ((9223372036854775807 : Int) < (N : Int)) = false := by simp; omega
  have HB0 : Hid (Below w.heap.size w (w.alloc (.cells (madeCells #[.int .i64 0] N) 3))) := Lib.hid ((Below.refl _ _).alloc (Nat.le_refl _) _)
  obtain ⟨g, hg⟩ : ∃ g, g = w.heap.size := ⟨_, rfl⟩
  have HGG := Lib.hid hg; clear hg
  obtain ⟨w4, hcp, hg4, hb4⟩ := copy_first (dT := 29) (sT := 29) (ty := 3) h1 Try.underlying29 infoInts1 HG0.out HC0.out
  have HG4 : Hid (w4.heap[g]? = some (.cells (fillL N 1 (.int .i64 x)).toArray 3 (0, 0)) ∧ Below g w w4) := Lib.hid ⟨by rw [HGG.out]; exact hg4, by rw [HGG.out]; exact HB0.out.trans hb4⟩
  clear hg4 hb4 HG0 HC0 HB0
  go_enter Try.func38, Try.ntmps38
  go_wp2_with (go_at_call 43; refine (HM.out _).mono ?_; rintro e w' ⟨rfl, rfl⟩)
  rw [← HGG.out]
  go_loopw [8] (fun i wr => ∃ m : Nat, i = .int .i64 m ∧ 1 ≤ m ∧ m ≤ N ∧ Hid (wr.heap[g]? = some (.cells (fillL N m (.int .i64 x)).toArray 3 (0, 0)) ∧ Below g w' wr)) (fun i _ => N - (intOf i).toNat)
  case atStart => exact ⟨1, rfl, Nat.le_refl _, h1, HG4⟩
  case round =>
    obtain ⟨m, rfl, hm1, hm2, HX⟩ := hrel
    clear HG4 hcp
    by_cases hlt : m < N
    · obtain ⟨k, hk⟩ : ∃ k, k = Nat.min m (N - m) := ⟨_, rfl⟩
      have hkm : k ≤ m := by rw [hk]; exact Nat.min_le_left _ _
      have hkn : k ≤ N - m := by rw [hk]; exact Nat.min_le_right _ _
      have hk1 : 1 ≤ k := by rw [hk]; exact Nat.le_min.2 ⟨hm1, by omega⟩
      obtain ⟨w5, hcp, hg5, hb5⟩ := copy_on (w := wr.drew) (dT := 29) (sT := 29) (ty := 3) hk hm2 Try.underlying29 infoInts1 HX.out.1
      have HG5 : Hid (w5.heap[g]? = some (.cells (fillL N (m + k) (.int .i64 x)).toArray 3 (0, 0)) ∧ Below g w' w5) := Lib.hid ⟨hg5, HX.out.2.drew.trans hb5⟩
      clear hg5 hb5 hk HX
      have hsum : IntKind.i64.wrap ((m : Int) + (k : Int)) = (m : Int) + (k : Int) := by rw [IntKind.wrap_i64]; omega
      have hne : ¬ N = m := by omega
      go_wp2_with fail
      go_region
      go_wp2_with fail
      go_roundw
      case rel => exact ⟨m + k, by go_num, by omega, by omega, HG5⟩
      case measure => simp [intOf]; omega
    · obtain rfl : m = N := by omega
      go_wp2_with fail
      go_ret
      exact ⟨g, rfl, owns_fill HX.out.1 (by rw [HGG.out]; exact Nat.le_refl _) (by unfold maxLen; omega), by rw [← HGG.out]; exact HX.out.2⟩
end Go.Proofs.Ytmmhdjibigopfaa
