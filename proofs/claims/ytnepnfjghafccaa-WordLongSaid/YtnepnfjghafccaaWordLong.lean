/- The walk of the law on a text of as many bytes as may be. -/
import Derived.Test.YtnepnfjghafccaaWAwake
import Derived.Laws.IdiomStrings
import Derived.Laws.OwnMore
import Derived.OwnWalk
namespace Go.Proofs.Ytnepnfjghafccaa
open Go.RowKit

/-- N bytes, the first k of them written. -/
def aBytes (N k : Nat) : List UInt8 := List.replicate k 97 ++ List.replicate (N - k) 0
def aCells (N k : Nat) : Array Value := ((aBytes N k).map fun b => Value.int .u8 b.toNat).toArray
theorem aCells_zero (N : Nat) : madeCells (Value.int .u8 0).cells N = aCells N 0 := by
  apply Array.ext'
  show (madeCells #[Value.int .u8 0] N).toList = _
  rw [toList_madeCells_one]
  simp [aCells, aBytes]
theorem aCells_set (N k : Nat) (h : k < N) : (aCells N k).setIfInBounds k (.int .u8 97) = aCells N (k + 1) := by
  apply Array.ext'
  have e : N - k = (N - (k + 1)) + 1 := by omega
  have e2 : List.replicate (k + 1) (97 : UInt8) = List.replicate k 97 ++ [97] := by rw [List.replicate_succ']
  simp only [aCells, aBytes, Array.toList_setIfInBounds]
  rw [e, List.replicate_succ, e2]
  simp
theorem aCells_size (N k : Nat) (h : k ≤ N) : (aCells N k).size = N := by simp [aCells, aBytes]; omega
theorem aCells_get (N k j : Nat) (hk : k ≤ N) (h : j < N) : ∃ b : UInt8, (aCells N k)[j]? = some (.int .u8 b.toNat) := by
  have hj : j < (aBytes N k).length := by simp [aBytes]; omega
  exact ⟨(aBytes N k)[j], by simp [aCells, hj]⟩
theorem aBytes_full (N : Nat) : aBytes N N = List.replicate N 97 := by simp [aBytes]
theorem bad_a (N : Nat) : toN badB (List.replicate N 97) = N := by
  have := toN_none (p := badB) (l := List.replicate N 97) (fun b hb => by rw [List.eq_of_mem_replicate hb]; decide)
  simpa using this
theorem cut_a (N : Nat) (h : 0 < N) : cutL (List.replicate N 97) 0 = [(List.replicate N 97, 0)] := by
  obtain ⟨M, rfl⟩ : ∃ M, N = M + 1 := ⟨N - 1, by omega⟩
  have hs : toN sepB (List.replicate M 97) = M := by
    have := toN_none (p := sepB) (l := List.replicate M 97) (fun b hb => by rw [List.eq_of_mem_replicate hb]; decide)
    simpa using this
  rw [List.replicate_succ, cutL_cons, if_neg (by decide), if_neg (by decide), hs, List.take_of_length_le (by simp), List.drop_of_length_le (by simp), cutL_nil]

theorem infoB : (Try.prog.info? 5).map (fun i => (i.zero, i.size, i.bytes)) = some (some (.int .u8 0), 1, 1) := by kernel_rfl

/-- The block of bytes at B, k of them written. -/
structure Bytes (w : World) (B N k : Nat) (wr : World) : Prop where
  blk : wr.heap[B]? = some (.cells (aCells N k) 5 (0, 0))
  below : Below w.heap.size w wr
  old : w.heap.size ≤ B
variable {w wr w2 : World} {B N k : Nat}
theorem Bytes.start (w w1 : World) (hb : Below w.heap.size w w1) (N : Nat) : Bytes w w1.heap.size N 0 (w1.alloc (.cells (aCells N 0) 5)) :=
  ⟨heap_alloc_new _ _, hb.alloc hb.size _, hb.size⟩
theorem Bytes.cell (h : Bytes w B N k wr) (hk : k < N) : ∃ v, wr.cell? ⟨B, k, none⟩ = some v := by
  obtain ⟨b, hb⟩ := aCells_get N k k (Nat.le_of_lt hk) hk
  exact ⟨_, by simp only [World.cell?, h.blk]; exact hb⟩
theorem Bytes.free (h : Bytes w B N k wr) : wr.frozen? ⟨B, k, none⟩ = false := by simp [World.frozen?, h.blk]
theorem Bytes.put (h : Bytes w B N k wr) (hk : k < N) : Bytes w B N (k + 1) (wr.setCell ⟨B, k, none⟩ (.int .u8 97)) :=
  ⟨by rw [set_block h.blk, aCells_set N k hk], h.below.setCell h.old _, h.old⟩
theorem Bytes.later (h : Bytes w B N k wr) (hb : Below wr.heap.size wr w2) : Bytes w B N k w2 :=
  ⟨(hb.block B (lt_of_block h.blk)).trans h.blk, h.below.trans (hb.mono h.below.size), h.old⟩
theorem Bytes.text (h : Bytes w B N N wr) (cap : Nat) : (convert 53 9 (.slice (some ⟨B, 0, none⟩) N cap)).run Try.prog wr = .ok (.string ⟨(List.replicate N 97).toArray⟩) wr := by
  have := run_convert_bytes_back (P := Try.prog) wr 53 9 5 ⟨B, 0, none⟩ cap (List.replicate N 97) Try.underlying53 Try.underlying5 Try.underlying9 (fun j hj => by
    have hj' : j < N := by simpa using hj
    simp only [Addr.add_lit, Nat.zero_add, World.cell?, h.blk]
    rw [aCells, aBytes_full]
    simp [hj'])
  simpa using this

set_option maxHeartbeats 1000000 in
theorem wordLong_walk (a : Int) (ha : (Lit.int .u8 a).wf = true) (w : World) : Calls Try.prog 7 #[.int .u8 a] w fun e w' => e = .returned (.bool true) ∧ Below w.heap.size w w' := by
  obtain ⟨m, rfl, hm⟩ : ∃ m : Nat, a = (m : Int) ∧ m ≤ 255 := by
    simp [Lit.wf, IntKind.min, IntKind.max, IntKind.signed, IntKind.bits] at ha
    exact ⟨a.toNat, by omega, by omega⟩
  clear ha
  obtain ⟨i0, hi, hz0, hz1, hz2⟩ := info_parts infoB
  obtain ⟨N, hN⟩ : ∃ N, N = 131072 + m % 3 := ⟨_, rfl⟩
  have hN1 : 131072 ≤ N := by omega
  have hN2 : N ≤ 131074 := by omega
  have hmk : ∀ W : World, (Instr.makeSlice 53 (.int .i64 (131072 + (m : Int) % 3)) (.int .i64 (131072 + (m : Int) % 3))).run Try.prog W = .ok (.slice (some ⟨W.heap.size, 0, none⟩) N N) (W.alloc (.cells (aCells N 0) 5)) := fun Wd => by
    have e : (131072 + (m : Int) % 3) = (N : Int) := by omega
    have h := run_make (P := Try.prog) Wd 53 5 i0 (.int .u8 0) Try.underlying53 hi hz0 .i64 .i64 (N : Int) (N : Int) (by omega) (by omega) (by rw [hz2]; omega) (by omega)
    rw [hz1, Nat.mul_one, Int.toNat_natCast, aCells_zero] at h
    rw [e]
    exact h
  have HI : Hid (i0 = i0) := Lib.hid rfl
  clear hi hz0 hz1 hz2 HI
  have HN := Lib.hid hN
  clear hN
  obtain ⟨y, hy⟩ : ∃ y : ByteArray, y = ⟨(List.replicate N 97).toArray⟩ := ⟨_, rfl⟩
  have hys : y.size = N := by rw [hy]; simp [ByteArray.size]
  have hyd : y.data.toList = List.replicate N 97 := by rw [hy]
  have HYS := Lib.hid hys
  have HYD := Lib.hid hyd
  have HY := Lib.hid hy
  clear hy hys hyd
  go_enter Try.func7, Try.ntmps7
  go_wp2_with (go_at_call 9; refine (word_awake _).mono ?_; rintro e w1 ⟨rfl, hb1⟩; have HB1 := Lib.hid (Bytes.start w _ hb1 N); clear hb1)
  generalize w1.heap.size = B at *
  go_loopw [19] (fun i wr => ∃ k : Nat, i = .int .i64 k ∧ k ≤ N ∧ Hid (Bytes w B N k wr)) (fun i _ => N - (intOf i).toNat)
  case atStart => exact ⟨0, rfl, Nat.zero_le _, HB1⟩
  case round =>
    obtain ⟨k, rfl, hk, HK⟩ := hrel
    clear HB1 hmk
    by_cases hlt : k < N
    · obtain ⟨v, hc⟩ := HK.out.cell hlt
      have hf := HK.out.free (k := k)
      have HP := Lib.hid (HK.out.put hlt)
      clear HK
      go_wp2_with fail
      go_roundw
      case rel => exact ⟨k + 1, by go_num, by omega, HP⟩
      case measure => simp [intOf]; omega
    · obtain rfl : k = N := by omega
      have hcv : (convert 53 9 (.slice (some ⟨B, 0, none⟩) k k)).run Try.prog wr = .ok (.string y) wr := by rw [HY.out]; exact HK.out.text k
      by_cases hr : m % 3 = 0
      · have h3 : (m : Int) % 3 = 0 := by omega
        have hk0 : k = 131072 := by have := HN.out; omega
        have HS := Lib.hid fun Wd => split_good y Wd (by rw [HYS.out]; omega) (by rw [HYD.out, HYS.out]; exact bad_a k)
        have HR := Lib.hid fun Wd => read_none y Wd (by rw [HYS.out]; omega) (by rw [HYD.out, HYS.out]; exact bad_a k)
        rw [HYD.out, cut_a k (by omega)] at HS HR
        have he : endAt [(List.replicate k 97, 0)] y.size 0 = 0 ∧ endCode [(List.replicate k (97 : UInt8), 0)] 0 = 6 := ⟨rfl, rfl⟩
        rw [he.1, he.2] at HR
        clear he hk0 hr
        go_wp2_with fail
        refine (HS.out _).mono ?_
        rintro e w2 ⟨v, rfl, hv, hb2⟩
        obtain ⟨g, cap, hsh, _, hg, hcl, hcm⟩ := hv.some_ (by simp)
        subst hsh
        have c0 := (hv.cells (k := 0) (x := (List.replicate k 97, 0)) rfl).1
        rw [← HY.out] at c0
        simp only [Nat.zero_mul] at c0
        have HK2 := Lib.hid (HK.out.later hb2)
        have hcv2 : (convert 53 9 (.slice (some ⟨B, 0, none⟩) k k)).run Try.prog w2 = .ok (.string y) w2 := by rw [HY.out]; exact HK2.out.text k
        clear hv hb2 HK HS hcv
        unfold maxLen at hcm
        go_wp2_with fail
        refine (HR.out _).mono ?_
        rintro e w3 ⟨rfl, hb3⟩
        have d0 := (hb3.cell (p := ⟨g, 0, none⟩) hg).trans c0
        have HK3 := Lib.hid (HK2.out.later hb3)
        clear hb3 c0 HK2 HR hcv2
        have hys := HYS.out
        go_wp2_with fail
        go_ret
        exact ⟨rfl, HK3.out.below⟩
      · have h3 : (0 : Int) < (m : Int) % 3 := by omega
        have HS := Lib.hid fun Wd => split_big y Wd (by rw [HYS.out]; have := HN.out; omega) (by rw [HYS.out]; omega)
        have HR := Lib.hid fun Wd => read_big y .nilFunc Wd (by rw [HYS.out]; have := HN.out; omega) (by rw [HYS.out]; omega)
        clear hr
        go_wp2_with (first
          | (go_at_call 10; refine (HS.out _).mono ?_; rintro e w2 ⟨rfl, rfl⟩)
          | (go_at_call 13; refine (HR.out _).mono ?_; rintro e w3 ⟨rfl, rfl⟩))
        go_ret
        exact ⟨rfl, HK.out.below⟩
end Go.Proofs.Ytnepnfjghafccaa
