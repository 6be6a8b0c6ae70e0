/- Joined: RepF, RepL. -/
import Derived.Test.YtbenmebmfihleaaMBase
import Derived.Test.YtbenmebmfihleaaShelf
import Derived.Laws.CopyOwn
import Derived.Deep.RegionLaw
import Derived.RegionTactic
import Derived.BigRegion
import Derived.Deep.QuietTactic
import Derived.Deep.LoopGhost
import Derived.LoopTactic
import Derived.Lib.Hide
section
/- slices.Repeat of one number. (As in XRepO, for package flow.) -/
namespace Go.Proofs.Ytbenmebmfihleaa
open Go.RowKit

theorem infoIntRp : (Try.prog.info? 3).map (fun i => (i.zero, i.size, i.bytes)) = some (some (.int .i64 0), 1, 8) := by kernel_rfl
/-- The first m of N are x, the others the zero value z. -/
def fillV (z : Value) (N m : Nat) (x : Value) : List Value := List.replicate m x ++ List.replicate (N - m) z
variable {z x : Value}
theorem fillV_length {N m : Nat} (h : m ≤ N) : (fillV z N m x).length = N := by simp [fillV]; omega
theorem fillV_get {N m j : Nat} (h : j < m) : (fillV z N m x)[j]? = some x := by
  rw [fillV, List.getElem?_append_left (by simpa using h)]
  simp [h]
theorem fillV_splice {N m k : Nat} (h : m + k ≤ N) : splice (fillV z N m x) m (List.replicate k x) = fillV z N (m + k) x := by
  rw [splice, fillV, List.take_append_of_le_length (by simp), List.take_of_length_le (by simp), List.drop_append, List.drop_of_length_le (by simp), fillV]
  simp only [List.nil_append, List.length_replicate, List.drop_replicate]
  rw [← List.append_assoc, List.replicate_append_replicate]
  congr 2
  omega
theorem fillV_made (N : Nat) (z x : Value) : madeCells #[z] N = (fillV z N 0 x).toArray := by
  apply Array.toList_inj.1
  rw [toList_madeCells_one]
  simp [fillV]
theorem one_fillV {x : Value} (hx : x.oneCell' = true) (k : Nat) : ∀ v ∈ List.replicate k x, v.oneCell' = true := by
  intro v hv
  rw [(List.mem_replicate.1 hv).2]
  exact hx
theorem rowIs_fillV {w : World} {g N : Nat} {T : TypeId} (h : w.heap[g]? = some (.cells (fillV z N N x).toArray T (0, 0))) : w.rowIs g T N (fun _ => x) :=
  ⟨_, h, by simp [fillV], fun i hi => by simpa using fillV_get (z := z) (N := N) (x := x) hi⟩
theorem one_atV {w : World} {b : Nat} {v : Value} (h : w.cell? ⟨b, 0, none⟩ = some v) : ∀ (j : Nat) (u : Value), [v][j]? = some u → w.cell? ((⟨b, 0, none⟩ : Addr).add j) = some u := fun j u hj => by
  match j, hj with
  | 0, hj =>
    simp at hj
    subst hj
    rw [Addr.add_lit]
    exact h
/-- copy of one thing to the head of a row that was just made. -/
theorem copy_firstV {w : World} {dT sT ty elem : TypeId} {g N b : Nat} (h1 : 1 ≤ N) (hx : x.oneCell' = true) (hu : (Try.prog).underlying dT = some (.slice elem)) (hs : (Try.prog.info? elem).map (·.size) = some 1)
    (hg : w.heap[g]? = some (.cells (fillV z N 0 x).toArray elem (0, 0))) (hc : w.cell? ⟨b, 0, none⟩ = some x) :
    ∃ w4, (Builtin.copy_ #[dT, sT] ty #[.slice (some ⟨g, 0, none⟩) N N, .slice (some ⟨b, 0, none⟩) 1 1]).run Try.prog w = .ok (.int .i64 1) w4 ∧ w4.heap[g]? = some (.cells (fillV z N 1 x).toArray elem (0, 0)) ∧ Below g w w4 := by
  have hr := run_copy_row (P := Try.prog) w dT sT ty elem g 0 N N ⟨b, 0, none⟩ 1 1 _ elem [x] hu hs hg (Nat.min_eq_left h1).symm (one_atV hc) (by simp [fillV]; omega) (one_fillV hx 1)
  refine ⟨_, hr, ?_, below_setRow (Below.refl _ _) (Nat.le_refl _) _⟩
  have := fillV_splice (z := z) (N := N) (m := 0) (k := 1) (x := x) (by omega)
  rw [setRow_heap _ _ _ _ _ _ hg, ← this]
  simp [splice]
/-- copy of what is there already, behind it. -/
theorem copy_onV {w : World} {dT sT ty elem : TypeId} {g N m k : Nat} (hk : k = Nat.min m (N - m)) (hm : m ≤ N) (hx : x.oneCell' = true) (hu : (Try.prog).underlying dT = some (.slice elem)) (hs : (Try.prog.info? elem).map (·.size) = some 1)
    (hg : w.heap[g]? = some (.cells (fillV z N m x).toArray elem (0, 0))) :
    ∃ w4, (Builtin.copy_ #[dT, sT] ty #[.slice (some ⟨g, m, none⟩) (N - m) (N - m), .slice (some ⟨g, 0, none⟩) m N]).run Try.prog w = .ok (.int .i64 (k : Int)) w4 ∧ w4.heap[g]? = some (.cells (fillV z N (m + k) x).toArray elem (0, 0)) ∧ Below g w w4 := by
  have hkm : k ≤ m := by rw [hk]; exact Nat.min_le_left _ _
  have hkn : k ≤ N - m := by rw [hk]; exact Nat.min_le_right _ _
  have hr := run_copy_row (P := Try.prog) w dT sT ty elem g m (N - m) (N - m) ⟨g, 0, none⟩ m N _ elem (List.replicate k x) hu hs hg (by rw [List.length_replicate]; exact hk) (fun j v hj => by
    have hjk : j < k := by have := (List.getElem?_eq_some_iff.1 hj).1; simpa using this
    simp [hjk] at hj
    subst hj
    rw [Addr.add_lit, Nat.zero_add]
    have e : (fillV z N m x)[j]? = some x := fillV_get (by omega)
    simp [World.cell?, hg, e]) (by rw [List.size_toArray, fillV_length hm, List.length_replicate]; omega) (one_fillV hx k)
  rw [List.length_replicate] at hr
  refine ⟨_, hr, ?_, below_setRow (Below.refl _ _) (Nat.le_refl _) _⟩
  have := fillV_splice (z := z) (N := N) (m := m) (k := k) (x := x) (by omega)
  rw [setRow_heap _ _ _ _ _ _ hg, ← this]
  simp [splice]
/-- copy to nowhere. -/
theorem copy_noneV {w : World} {dT sT ty elem : TypeId} {g b : Nat} (hu : (Try.prog).underlying dT = some (.slice elem)) (hs : (Try.prog.info? elem).map (·.size) = some 1)
    (hg : w.heap[g]? = some (.cells (fillV z 0 0 x).toArray elem (0, 0))) :
    ∃ w4, (Builtin.copy_ #[dT, sT] ty #[.slice (some ⟨g, 0, none⟩) 0 0, .slice (some ⟨b, 0, none⟩) 1 1]).run Try.prog w = .ok (.int .i64 0) w4 ∧ Below g w w4 := by
  have hr := run_copy_row (P := Try.prog) w dT sT ty elem g 0 0 0 ⟨b, 0, none⟩ 1 1 _ elem [] hu hs hg rfl (fun j u hj => by cases hj) (by simp) (fun v hv => by cases hv)
  exact ⟨_, hr, below_setRow (Below.refl _ _) (Nat.le_refl _) _⟩
theorem infoInts1 : (Try.prog.info? 3).map (·.size) = some 1 := by kernel_rfl

set_option maxHeartbeats 2000000 in
set_option maxRecDepth 100000 in
theorem repIntsO (x : Int) (N b : Nat) (w : World) (h1 : 1 ≤ N) (hN : N ≤ 1000) (hx : w.cell? ⟨b, 0, none⟩ = some (.int .i64 x)) :
    Calls Try.prog 56 #[.slice (some ⟨b, 0, none⟩) 1 1, .int .i64 (N : Int)] w fun e w' => ∃ g, e = .returned (.slice (some ⟨g, 0, none⟩) N N) ∧ w'.rowIs g 3 N (fun _ => .int .i64 x) ∧ w.heap.size ≤ g ∧ Below w.heap.size w w' := by
  have hmk := run_make_row' (P := Try.prog) 61 3 (.int .i64 0) 8 Try.underlying61 infoIntRp rfl .i64 .i64 N (by omega) (by omega)
  have hm := fun (w : World) => Try.bits_Mul 1 N (by omega) (by omega) w
  have e1 : 1 * N / 18446744073709551616 = 0 := by omega
  have e2 : 1 * N % 18446744073709551616 = N := by omega
  rw [e1, e2] at hm
  have HM := Lib.hid hm
  clear hm e1 e2
  have hbw : b < w.heap.size := World.block_lt_of_cell? w _ hx
  have HG0 : Hid ((w.alloc (.cells (madeCells #[.int .i64 0] N) 3)).heap[w.heap.size]? = some (.cells (fillV (.int .i64 0) N 0 (.int .i64 x)).toArray 3 (0, 0))) := Lib.hid (by rw [← fillV_made]; exact heap_alloc_new _ _)
  have HC0 : Hid ((w.alloc (.cells (madeCells #[.int .i64 0] N) 3)).cell? ⟨b, 0, none⟩ = some (.int .i64 x)) := Lib.hid ((World.cell?_alloc_past _ _ _ hbw).trans hx)
  clear hx
  have hd0 : decide ((N : Int) < 0) = false := by simp
  have hd1 : decide ((9223372036854775807 : Int) < (N : Int)) = false := by simp; omega
  have HB0 : Hid (Below w.heap.size w (w.alloc (.cells (madeCells #[.int .i64 0] N) 3))) := Lib.hid ((Below.refl _ _).alloc (Nat.le_refl _) _)
  obtain ⟨g, hg⟩ : ∃ g, g = w.heap.size := ⟨_, rfl⟩
  have HGG := Lib.hid hg; clear hg
  obtain ⟨w4, hcp, hg4, hb4⟩ := copy_firstV (dT := 61) (sT := 61) (ty := 3) h1 rfl Try.underlying61 infoInts1 HG0.out HC0.out
  have HG4 : Hid (w4.heap[g]? = some (.cells (fillV (.int .i64 0) N 1 (.int .i64 x)).toArray 3 (0, 0)) ∧ Below g w w4) := Lib.hid ⟨by rw [HGG.out]; exact hg4, by rw [HGG.out]; exact HB0.out.trans hb4⟩
  clear hg4 hb4 HG0 HC0 HB0
  go_enter Try.func56, Try.ntmps56
  go_wp2_with (go_at_call 65; refine (HM.out _).mono ?_; rintro e w' ⟨rfl, rfl⟩)
  rw [← HGG.out]
  go_loopw [8] (fun i wr => ∃ m : Nat, i = .int .i64 m ∧ 1 ≤ m ∧ m ≤ N ∧ Hid (wr.heap[g]? = some (.cells (fillV (.int .i64 0) N m (.int .i64 x)).toArray 3 (0, 0)) ∧ Below g w' wr)) (fun i _ => N - (intOf i).toNat)
  case atStart => exact ⟨1, rfl, Nat.le_refl _, h1, HG4⟩
  case round =>
    obtain ⟨m, rfl, hm1, hm2, HX⟩ := hrel
    clear HG4 hcp
    by_cases hlt : m < N
    · obtain ⟨k, hk⟩ : ∃ k, k = Nat.min m (N - m) := ⟨_, rfl⟩
      have hkm : k ≤ m := by rw [hk]; exact Nat.min_le_left _ _
      have hkn : k ≤ N - m := by rw [hk]; exact Nat.min_le_right _ _
      have hk1 : 1 ≤ k := by rw [hk]; exact Nat.le_min.2 ⟨hm1, by omega⟩
      obtain ⟨w5, hcp, hg5, hb5⟩ := copy_onV (w := wr.drew) (dT := 61) (sT := 61) (ty := 3) hk hm2 rfl Try.underlying61 infoInts1 HX.out.1
      have HG5 : Hid (w5.heap[g]? = some (.cells (fillV (.int .i64 0) N (m + k) (.int .i64 x)).toArray 3 (0, 0)) ∧ Below g w' w5) := Lib.hid ⟨hg5, HX.out.2.drew.trans hb5⟩
      clear hg5 hb5 hk HX
      have hsum : IntKind.i64.wrap ((m : Int) + (k : Int)) = (m : Int) + (k : Int) := by rw [IntKind.wrap_i64]; omega
      have hne : ¬ N = m := by omega
      go_wp2_with fail
      go_region
      go_wp2_with fail
      go_roundw
      case rel => exact ⟨m + k, by go_num, by omega, by omega, HG5⟩
      case measure => simp [intOf]; omega
    · obtain rfl : m = N := by omega
      go_wp2_with fail
      go_ret
      exact ⟨g, rfl, rowIs_fillV HX.out.1, by rw [HGG.out]; exact Nat.le_refl _, by rw [← HGG.out]; exact HX.out.2⟩
end Go.Proofs.Ytbenmebmfihleaa
end
section
/- slices.Repeat of one int64. -/
namespace Go.Proofs.Ytbenmebmfihleaa
open Go.RowKit

variable {z x : Value}
theorem infoLongRp : (Try.prog.info? 2).map (fun i => (i.zero, i.size, i.bytes)) = some (some (.int .i64 0), 1, 8) := by kernel_rfl
theorem infoLongs1 : (Try.prog.info? 2).map (·.size) = some 1 := by kernel_rfl
set_option maxHeartbeats 2000000 in
set_option maxRecDepth 100000 in
theorem repLongsK (x : Int) (N b : Nat) (w : World) (h1 : 1 ≤ N) (hN : N ≤ 1000) (hx : w.cell? ⟨b, 0, none⟩ = some (.int .i64 x)) :
    Calls Try.prog 60 #[.slice (some ⟨b, 0, none⟩) 1 1, .int .i64 (N : Int)] w fun e w' => ∃ g, e = .returned (.slice (some ⟨g, 0, none⟩) N N) ∧ w'.rowIs g 2 N (fun _ => .int .i64 x) ∧ w.heap.size ≤ g ∧ Below w.heap.size w w' := by
  have hmk := run_make_row' (P := Try.prog) 31 2 (.int .i64 0) 8 Try.underlying31 infoLongRp rfl .i64 .i64 N (by omega) (by omega)
  have hm := fun (w : World) => Try.bits_Mul 1 N (by omega) (by omega) w
  have e1 : 1 * N / 18446744073709551616 = 0 := by omega
  have e2 : 1 * N % 18446744073709551616 = N := by omega
  rw [e1, e2] at hm
  have HM := Lib.hid hm
  clear hm e1 e2
  have hbw : b < w.heap.size := World.block_lt_of_cell? w _ hx
  have HG0 : Hid ((w.alloc (.cells (madeCells #[.int .i64 0] N) 2)).heap[w.heap.size]? = some (.cells (fillV (.int .i64 0) N 0 (.int .i64 x)).toArray 2 (0, 0))) := Lib.hid (by rw [← fillV_made]; exact heap_alloc_new _ _)
  have HC0 : Hid ((w.alloc (.cells (madeCells #[.int .i64 0] N) 2)).cell? ⟨b, 0, none⟩ = some (.int .i64 x)) := Lib.hid ((World.cell?_alloc_past _ _ _ hbw).trans hx)
  clear hx
  have hd0 : decide ((N : Int) < 0) = false := by simp
  have hd1 : decide ((9223372036854775807 : Int) < (N : Int)) = false := by simp; omega
  have HB0 : Hid (Below w.heap.size w (w.alloc (.cells (madeCells #[.int .i64 0] N) 2))) := Lib.hid ((Below.refl _ _).alloc (Nat.le_refl _) _)
  obtain ⟨g, hg⟩ : ∃ g, g = w.heap.size := ⟨_, rfl⟩
  have HGG := Lib.hid hg; clear hg
  obtain ⟨w4, hcp, hg4, hb4⟩ := copy_firstV (dT := 31) (sT := 31) (ty := 3) h1 rfl Try.underlying31 infoLongs1 HG0.out HC0.out
  have HG4 : Hid (w4.heap[g]? = some (.cells (fillV (.int .i64 0) N 1 (.int .i64 x)).toArray 2 (0, 0)) ∧ Below g w w4) := Lib.hid ⟨by rw [HGG.out]; exact hg4, by rw [HGG.out]; exact HB0.out.trans hb4⟩
  clear hg4 hb4 HG0 HC0 HB0
  go_enter Try.func60, Try.ntmps60
  go_wp2_with (go_at_call 65; refine (HM.out _).mono ?_; rintro e w' ⟨rfl, rfl⟩)
  rw [← HGG.out]
  go_loopw [8] (fun i wr => ∃ m : Nat, i = .int .i64 m ∧ 1 ≤ m ∧ m ≤ N ∧ Hid (wr.heap[g]? = some (.cells (fillV (.int .i64 0) N m (.int .i64 x)).toArray 2 (0, 0)) ∧ Below g w' wr)) (fun i _ => N - (intOf i).toNat)
  case atStart => exact ⟨1, rfl, Nat.le_refl _, h1, HG4⟩
  case round =>
    obtain ⟨m, rfl, hm1, hm2, HX⟩ := hrel
    clear HG4 hcp
    by_cases hlt : m < N
    · obtain ⟨k, hk⟩ : ∃ k, k = Nat.min m (N - m) := ⟨_, rfl⟩
      have hkm : k ≤ m := by rw [hk]; exact Nat.min_le_left _ _
      have hkn : k ≤ N - m := by rw [hk]; exact Nat.min_le_right _ _
      have hk1 : 1 ≤ k := by rw [hk]; exact Nat.le_min.2 ⟨hm1, by omega⟩
      obtain ⟨w5, hcp, hg5, hb5⟩ := copy_onV (w := wr.drew) (dT := 31) (sT := 31) (ty := 3) hk hm2 rfl Try.underlying31 infoLongs1 HX.out.1
      have HG5 : Hid (w5.heap[g]? = some (.cells (fillV (.int .i64 0) N (m + k) (.int .i64 x)).toArray 2 (0, 0)) ∧ Below g w' w5) := Lib.hid ⟨hg5, HX.out.2.drew.trans hb5⟩
      clear hg5 hb5 hk HX
      have hsum : IntKind.i64.wrap ((m : Int) + (k : Int)) = (m : Int) + (k : Int) := by rw [IntKind.wrap_i64]; omega
      have hne : ¬ N = m := by omega
      go_wp2_with fail
      go_region
      go_wp2_with fail
      go_roundw
      case rel => exact ⟨m + k, by go_num, by omega, by omega, HG5⟩
      case measure => simp [intOf]; omega
    · obtain rfl : m = N := by omega
      go_wp2_with fail
      go_ret
      exact ⟨g, rfl, rowIs_fillV HX.out.1, by rw [HGG.out]; exact Nat.le_refl _, by rw [← HGG.out]; exact HX.out.2⟩
end Go.Proofs.Ytbenmebmfihleaa
end
