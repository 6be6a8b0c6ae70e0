/- Joined: Fars, IntRow, Repeat, PChk, Begun, AdjK, Looker. -/
import Derived.Test.YtfkommjlmolniaaGreatDoorHd12
import Derived.Test.YtfkommjlmolniaaGreatDoorHd1
import Derived.Deep.RegionHeld3
import Derived.Test.YtfkommjlmolniaaGreatDoorShelf
import Derived.Laws.CopyOwn
import Derived.Deep.RegionLaw
import Derived.Maps.RangeWalk
import Derived.Test.YtfkommjlmolniaaGreatDoorHd6
set_option linter.unusedVariables false
section

namespace Go.Proofs.YtfkommjlmolniaaGreatDoor
open Go.RowKit
def valI (far : Nat → Option Int) (i : Nat) : Int := match far i with
 | some d => d
 | none => 1152921504606846976
variable {far far2 : Nat → Option Int} {l : List Ar} {s i N r q : Nat} {d p : Int}
theorem Z49 (h : far i = some d) : valI far i = d := by simp [valI,h]
theorem Zhn (h : far i = none) : valI far i = 1152921504606846976 := by simp [valI,h]
theorem Z4s (hok : ∀ x ∈ l,okA (N : Int) x = true) : ∀ x ∈ l,-1099511627776 ≤ x.2.2 ∧ x.2.2 ≤ 1099511627776 := fun x hx => (okA_true.1 (hok x hx)).2.2
theorem Zf0 {k : Nat} (hok : ∀ x ∈ l,okA (N : Int) x = true) (h : Walk l s i k d) (hk : k ≤ 1002) : -1102000000000000 ≤ d ∧ d ≤ 1102000000000000 := by
 have h1 := h.bound (Z4s hok); have h2 : (k : Int) * 1099511627776 ≤ 1002 * 1099511627776 := Int.mul_le_mul_of_nonneg_right (by omega) (by omega)
 omega
def Small (far : Nat → Option Int) : Prop := ∀ i d,far i = some d → -1102000000000000 ≤ d ∧ d ≤ 1102000000000000
theorem Near.small (h : Near l s far r) (hok : ∀ x ∈ l,okA (N : Int) x = true) (hr : r ≤ 1002) : Small far := fun i d e => by
 obtain ⟨k,hk,hw⟩ := h.att i d e; exact Zf0 hok hw (by omega)
theorem Small.ne (h : Small far) (e : far i = some d) : valI far i ≠ 1152921504606846976 := by
 have := h i d e; rw [Z49 e]; omega
variable {w wr w2 : World} {a : Option Addr} {len cap g g1 g2 c1 c2 k : Nat} {v : Value} {f f2 : Nat → Int} {u : Int}
end Go.Proofs.YtfkommjlmolniaaGreatDoor
end
section

namespace Go.Proofs.YtfkommjlmolniaaGreatDoor
open Go.RowKit
variable {w w2 : World} {base N g cap i : Nat} {f : Nat → Int} {v : Value}
def IntRow (w : World) (base : Nat) (v : Value) (N : Nat) (f : Nat → Int) : Prop := w.ownsRow base 3 1 v N (rowF N f)
theorem IntRow.cell (h : IntRow w base (.slice (some ⟨g,0,none⟩) N cap) N f) (hi : i < N) : w.cell? ⟨g,i,none⟩ = some (.int .i64 (f i)) := by
 rw [World.ownsRow.cellAt h i (by omega)]
 exact Z3s _ hi
theorem IntRow.frozen (h : IntRow w base (.slice (some ⟨g,0,none⟩) N cap) N f) (i : Nat) : w.frozen? ⟨g,i,none⟩ = false := World.ownsRow.frozenAt h i
theorem IntRow.below (h : IntRow w base v N f) (hb : Below w.heap.size w w2) : IntRow w2 base v N f := Z06 h hb
theorem IntRow.some_ (h : IntRow w base v N f) (h0 : 0 < N) : ∃ g cap,v = .slice (some ⟨g,0,none⟩) N cap ∧ base ≤ g ∧ g < w.heap.size ∧ N ≤ cap ∧ cap ≤ maxLen := Z0x h h0
end Go.Proofs.YtfkommjlmolniaaGreatDoor
end
section

namespace Go.Proofs.YtfkommjlmolniaaGreatDoor
set_option maxHeartbeats 16000000
set_option maxRecDepth 100000
open Go.Lib (hid)
open Go.RowKit
def fillL (N m : Nat) (x : Value) : List Value := List.replicate m x ++ List.replicate (N - m) (.int .i64 0)
theorem Zb5 {N m : Nat} {x : Value} (h : m ≤ N) : (fillL N m x).length = N := by simp [fillL]; omega
theorem Zj7 {N m j : Nat} {x : Value} (h : j < m) : (fillL N m x)[j]? = some x := by
 rw [fillL,List.getElem?_append_left (by simpa using h)]
 simp [h]
theorem Z57 {N m k : Nat} {x : Value} (h : m + k ≤ N) : splice (fillL N m x) m (List.replicate k x) = fillL N (m + k) x := by
 rw [splice,fillL,List.take_append_of_le_length (by simp),List.take_of_length_le (by simp),List.drop_append,List.drop_of_length_le (by simp),fillL]
 simp only [List.nil_append,List.length_replicate,List.drop_replicate]
 rw [← List.append_assoc,List.replicate_append_replicate]; congr 2
 omega
theorem Zg7 (N : Nat) (x : Int) : fillL N N (.int .i64 x) = rowF N (fun _ => x) := by
 simp [fillL,rowF,List.map_const']
theorem Z7v (N : Nat) (x : Value) : madeCells #[.int .i64 0] N = (fillL N 0 x).toArray := by
 apply Array.toList_inj.1
 rw [toList_madeCells_one]; simp [fillL]
theorem Ze5 (k : Nat) (x : Int) : ∀ v ∈ List.replicate k (Value.int .i64 x),v.oneCell' = true := by
 intro v hv; rw [(List.mem_replicate.1 hv).2]; rfl
theorem Zb6 {w : World} {g N B : Nat} {T : TypeId} {x : Int} (h : w.heap[g]? = some (.cells (fillL N N (.int .i64 x)).toArray T (0,0))) (hB : B ≤ g) (hN : N ≤ maxLen) : w.ownsRow B T 1 (.slice (some ⟨g,0,none⟩) N N) N (rowF N (fun _ => x)) := by
 rw [Zg7] at h; refine ⟨by simp [rowF],.inr ⟨g,N,_,rfl,hB,h,Nat.le_refl _,hN,by simp [rowF],?_⟩⟩
 rw [List.take_of_length_le (by simp [rowF])]
theorem Zod {w : World} {b : Nat} {v : Value} (h : w.cell? ⟨b,0,none⟩ = some v) : ∀ (j : Nat) (u : Value),[v][j]? = some u → w.cell? ((⟨b,0,none⟩ : Addr).add j) = some u := fun j u hj => by
 match j,hj with
 | 0,hj =>
  simp at hj
  subst hj; rw [Addr.add_lit]; exact h
theorem Z7w {w : World} {dT sT ty elem : TypeId} {g N b : Nat} {x : Int} (h1 : 1 ≤ N) (hu : (Tryz.prog).underlying dT = some (.slice elem)) (hs : (Tryz.prog.info? elem).map (·.size) = some 1)
  (hg : w.heap[g]? = some (.cells (fillL N 0 (.int .i64 x)).toArray elem (0,0))) (hc : w.cell? ⟨b,0,none⟩ = some (.int .i64 x)) :
  ∃ w4,(Builtin.copy_ #[dT,sT] ty #[.slice (some ⟨g,0,none⟩) N N,.slice (some ⟨b,0,none⟩) 1 1]).run Tryz.prog w = .ok (.int .i64 1) w4 ∧ w4.heap[g]? = some (.cells (fillL N 1 (.int .i64 x)).toArray elem (0,0)) ∧ Below g w w4 := by
 have hr := run_copy_row (P := Tryz.prog) w dT sT ty elem g 0 N N ⟨b,0,none⟩ 1 1 _ elem [.int .i64 x] hu hs hg (Nat.min_eq_left h1).symm (Zod hc) (by simp [fillL]; omega) (Ze5 1 x)
 refine ⟨_,hr,?_,below_setRow (Below.refl _ _) (Nat.le_refl _) _⟩; have := Z57 (N := N) (m := 0) (k := 1) (x := .int .i64 x) (by omega)
 rw [setRow_heap _ _ _ _ _ _ hg,← this]; simp [splice]
theorem Zj8 {w : World} {dT sT ty elem : TypeId} {g N m k : Nat} {x : Int} (hk : k = Nat.min m (N - m)) (hm : m ≤ N) (hu : (Tryz.prog).underlying dT = some (.slice elem)) (hs : (Tryz.prog.info? elem).map (·.size) = some 1)
  (hg : w.heap[g]? = some (.cells (fillL N m (.int .i64 x)).toArray elem (0,0))) :
  ∃ w4,(Builtin.copy_ #[dT,sT] ty #[.slice (some ⟨g,m,none⟩) (N - m) (N - m),.slice (some ⟨g,0,none⟩) m N]).run Tryz.prog w = .ok (.int .i64 (k : Int)) w4 ∧ w4.heap[g]? = some (.cells (fillL N (m + k) (.int .i64 x)).toArray elem (0,0)) ∧ Below g w w4 := by
 have hkm : k ≤ m := by rw [hk]; exact Nat.min_le_left _ _
 have hkn : k ≤ N - m := by rw [hk]; exact Nat.min_le_right _ _
 have hr := run_copy_row (P := Tryz.prog) w dT sT ty elem g m (N - m) (N - m) ⟨g,0,none⟩ m N _ elem (List.replicate k (.int .i64 x)) hu hs hg (by rw [List.length_replicate]; exact hk) (fun j v hj => by
  have hjk : j < k := by have := (List.getElem?_eq_some_iff.1 hj).1; simpa using this
  simp [hjk] at hj
  subst hj; rw [Addr.add_lit,Nat.zero_add]; have e : (fillL N m (.int .i64 x))[j]? = some (.int .i64 x) := Zj7 (by omega)
  simp [World.cell?,hg,e]) (by rw [List.size_toArray,Zb5 hm,List.length_replicate]; omega) (Ze5 k x)
 rw [List.length_replicate] at hr; refine ⟨_,hr,?_,below_setRow (Below.refl _ _) (Nat.le_refl _) _⟩; have := Z57 (N := N) (m := m) (k := k) (x := .int .i64 x) (by omega)
 rw [setRow_heap _ _ _ _ _ _ hg,← this]; simp [splice]
theorem Z7x : (Tryz.prog.info? 2).map (·.size) = some 1 := by kernel_rfl
theorem Zb7 : (Tryz.prog.info? 3).map (·.size) = some 1 := by kernel_rfl
theorem Zlu (x : Int) (N b : Nat) (w : World) (h1 : 1 ≤ N) (hN : N ≤ 1000) (hx : w.cell? ⟨b,0,none⟩ = some (.int .i64 x)) :
  Calls Tryz.prog 117 #[.slice (some ⟨b,0,none⟩) 1 1,.int .i64 (N : Int)] w fun e w' => ∃ g,e = .returned (.slice (some ⟨g,0,none⟩) N N) ∧ LongRow w' w.heap.size (.slice (some ⟨g,0,none⟩) N N) N (fun _ => x) ∧ Below w.heap.size w w' := by
 have hmk := run_make_row' (P := Tryz.prog) 56 2 (.int .i64 0) 8 Tryz.underlying56 Zl5 rfl .i64 .i64 N (by omega) (by omega)
 have hm := fun (w : World) => Tryz.bits_Mul 1 N (by omega) (by omega) w
 have e1 : 1 * N / 18446744073709551616 = 0 := by omega
 have e2 : 1 * N % 18446744073709551616 = N := by omega
 rw [e1,e2] at hm; have HM := hid hm; clear hm e1 e2; have hbw : b < w.heap.size := World.block_lt_of_cell? w _ hx; have HG0 : Hid ((w.alloc (.cells (madeCells #[.int .i64 0] N) 2)).heap[w.heap.size]? = some (.cells (fillL N 0 (.int .i64 x)).toArray 2 (0,0))) := hid (by rw [← Z7v]; exact heap_alloc_new _ _)
 have HC0 : Hid ((w.alloc (.cells (madeCells #[.int .i64 0] N) 2)).cell? ⟨b,0,none⟩ = some (.int .i64 x)) := hid ((World.cell?_alloc_past _ _ _ hbw).trans hx); clear hx; have hd0 : decide ((N : Int) < 0) = false := by simp
 have hd1 : decide ((9223372036854775807 : Int) < (N : Int)) = false := by simp; omega
 have HB0 : Hid (Below w.heap.size w (w.alloc (.cells (madeCells #[.int .i64 0] N) 2))) := hid ((Below.refl _ _).alloc (Nat.le_refl _) _); obtain ⟨g,hg⟩ : ∃ g,g = w.heap.size := ⟨_,rfl⟩; have HGG := hid hg; clear hg; obtain ⟨w4,hcp,hg4,hb4⟩ := Z7w (dT := 56) (sT := 56) (ty := 3) h1 Tryz.underlying56 Z7x HG0.out HC0.out; have HG4 : Hid (w4.heap[g]? = some (.cells (fillL N 1 (.int .i64 x)).toArray 2 (0,0)) ∧ Below g w w4) := hid ⟨by rw [HGG.out]; exact hg4,by rw [HGG.out]; exact HB0.out.trans hb4⟩
 clear hg4 hb4 HG0 HC0 HB0; go_enter Tryz.func117,Tryz.ntmps117
 go_wp2_with (go_at_call 134; refine (HM.out _).mono ?_; rintro e w' ⟨rfl,rfl⟩)
 rw [← HGG.out]; go_loopw [8] (fun i wr => ∃ m : Nat,i = .int .i64 m ∧ 1 ≤ m ∧ m ≤ N ∧ Hid (wr.heap[g]? = some (.cells (fillL N m (.int .i64 x)).toArray 2 (0,0)) ∧ Below g w' wr)) (fun i _ => N - (intOf i).toNat)
 case atStart => exact ⟨1,rfl,Nat.le_refl _,h1,HG4⟩
 case round =>
  obtain ⟨m,rfl,hm1,hm2,HX⟩ := hrel; clear HG4 hcp; by_cases hlt : m < N
  ·obtain ⟨k,hk⟩ : ∃ k,k = Nat.min m (N - m) := ⟨_,rfl⟩
   have hkm : k ≤ m := by rw [hk]; exact Nat.min_le_left _ _
   have hkn : k ≤ N - m := by rw [hk]; exact Nat.min_le_right _ _
   have hk1 : 1 ≤ k := by rw [hk]; exact Nat.le_min.2 ⟨hm1,by omega⟩
   obtain ⟨w5,hcp,hg5,hb5⟩ := Zj8 (w := wr.drew) (dT := 56) (sT := 56) (ty := 3) hk hm2 Tryz.underlying56 Z7x HX.out.1; have HG5 : Hid (w5.heap[g]? = some (.cells (fillL N (m + k) (.int .i64 x)).toArray 2 (0,0)) ∧ Below g w' w5) := hid ⟨hg5,HX.out.2.drew.trans hb5⟩; clear hg5 hb5 hk HX; have hsum : IntKind.i64.wrap ((m : Int) + (k : Int)) = (m : Int) + (k : Int) := by rw [IntKind.wrap_i64]; omega
   have hne : ¬ N = m := by omega
   go_wp2_with fail
   go_region
   go_wp2_with fail
   go_roundw
   case rel => exact ⟨m + k,by go_num,by omega,by omega,HG5⟩
   case measure => simp [intOf]; omega
  ·obtain rfl : m = N := by omega
   go_wp2_with fail
   go_ret
   exact ⟨g,rfl,Zb6 HX.out.1 (by rw [HGG.out]; exact Nat.le_refl _) (by unfold maxLen; omega),by rw [← HGG.out]; exact HX.out.2⟩
theorem Znn (x : Int) (N b : Nat) (w : World) (h1 : 1 ≤ N) (hN : N ≤ 1000) (hx : w.cell? ⟨b,0,none⟩ = some (.int .i64 x)) :
  Calls Tryz.prog 113 #[.slice (some ⟨b,0,none⟩) 1 1,.int .i64 (N : Int)] w fun e w' => ∃ g,e = .returned (.slice (some ⟨g,0,none⟩) N N) ∧ IntRow w' w.heap.size (.slice (some ⟨g,0,none⟩) N N) N (fun _ => x) ∧ Below w.heap.size w w' := by
 have hmk := run_make_row' (P := Tryz.prog) 37 3 (.int .i64 0) 8 Tryz.underlying37 Zid rfl .i64 .i64 N (by omega) (by omega)
 have hm := fun (w : World) => Tryz.bits_Mul 1 N (by omega) (by omega) w
 have e1 : 1 * N / 18446744073709551616 = 0 := by omega
 have e2 : 1 * N % 18446744073709551616 = N := by omega
 rw [e1,e2] at hm; have HM := hid hm; clear hm e1 e2; have hbw : b < w.heap.size := World.block_lt_of_cell? w _ hx; have HG0 : Hid ((w.alloc (.cells (madeCells #[.int .i64 0] N) 3)).heap[w.heap.size]? = some (.cells (fillL N 0 (.int .i64 x)).toArray 3 (0,0))) := hid (by rw [← Z7v]; exact heap_alloc_new _ _)
 have HC0 : Hid ((w.alloc (.cells (madeCells #[.int .i64 0] N) 3)).cell? ⟨b,0,none⟩ = some (.int .i64 x)) := hid ((World.cell?_alloc_past _ _ _ hbw).trans hx); clear hx; have hd0 : decide ((N : Int) < 0) = false := by simp
 have hd1 : decide ((9223372036854775807 : Int) < (N : Int)) = false := by simp; omega
 have HB0 : Hid (Below w.heap.size w (w.alloc (.cells (madeCells #[.int .i64 0] N) 3))) := hid ((Below.refl _ _).alloc (Nat.le_refl _) _); obtain ⟨g,hg⟩ : ∃ g,g = w.heap.size := ⟨_,rfl⟩; have HGG := hid hg; clear hg; obtain ⟨w4,hcp,hg4,hb4⟩ := Z7w (dT := 37) (sT := 37) (ty := 3) h1 Tryz.underlying37 Zb7 HG0.out HC0.out; have HG4 : Hid (w4.heap[g]? = some (.cells (fillL N 1 (.int .i64 x)).toArray 3 (0,0)) ∧ Below g w w4) := hid ⟨by rw [HGG.out]; exact hg4,by rw [HGG.out]; exact HB0.out.trans hb4⟩
 clear hg4 hb4 HG0 HC0 HB0; go_enter Tryz.func113,Tryz.ntmps113
 go_wp2_with (go_at_call 134; refine (HM.out _).mono ?_; rintro e w' ⟨rfl,rfl⟩)
 rw [← HGG.out]; go_loopw [8] (fun i wr => ∃ m : Nat,i = .int .i64 m ∧ 1 ≤ m ∧ m ≤ N ∧ Hid (wr.heap[g]? = some (.cells (fillL N m (.int .i64 x)).toArray 3 (0,0)) ∧ Below g w' wr)) (fun i _ => N - (intOf i).toNat)
 case atStart => exact ⟨1,rfl,Nat.le_refl _,h1,HG4⟩
 case round =>
  obtain ⟨m,rfl,hm1,hm2,HX⟩ := hrel; clear HG4 hcp; by_cases hlt : m < N
  ·obtain ⟨k,hk⟩ : ∃ k,k = Nat.min m (N - m) := ⟨_,rfl⟩
   have hkm : k ≤ m := by rw [hk]; exact Nat.min_le_left _ _
   have hkn : k ≤ N - m := by rw [hk]; exact Nat.min_le_right _ _
   have hk1 : 1 ≤ k := by rw [hk]; exact Nat.le_min.2 ⟨hm1,by omega⟩
   obtain ⟨w5,hcp,hg5,hb5⟩ := Zj8 (w := wr.drew) (dT := 37) (sT := 37) (ty := 3) hk hm2 Tryz.underlying37 Zb7 HX.out.1; have HG5 : Hid (w5.heap[g]? = some (.cells (fillL N (m + k) (.int .i64 x)).toArray 3 (0,0)) ∧ Below g w' w5) := hid ⟨hg5,HX.out.2.drew.trans hb5⟩; clear hg5 hb5 hk HX; have hsum : IntKind.i64.wrap ((m : Int) + (k : Int)) = (m : Int) + (k : Int) := by rw [IntKind.wrap_i64]; omega
   have hne : ¬ N = m := by omega
   go_wp2_with fail
   go_region
   go_wp2_with fail
   go_roundw
   case rel => exact ⟨m + k,by go_num,by omega,by omega,HG5⟩
   case measure => simp [intOf]; omega
  ·obtain rfl : m = N := by omega
   go_wp2_with fail
   go_ret
   exact ⟨g,rfl,Zb6 HX.out.1 (by rw [HGG.out]; exact Nat.le_refl _) (by unfold maxLen; omega),by rw [← HGG.out]; exact HX.out.2⟩
end Go.Proofs.YtfkommjlmolniaaGreatDoor
end
section

namespace Go.Proofs.YtfkommjlmolniaaGreatDoor
open Go.Lib (hid)
open Go.RowKit
variable {len : Nat} {l : List Ar}
def Z42 (n : Int) (l : List Ar) (s : Int) : Int := if Z15 n l = 0 then (if 0 ≤ s ∧ s < n then 0 else 2) else Z15 n l
theorem Zc2 {n s : Int} (h : Z15 n l ≠ 0) : Z42 n l s = Z15 n l := by rw [Z42,if_neg h]
theorem Z7o {n s : Int} (h : Z15 n l = 0) (h2 : 0 ≤ s ∧ s < n) : Z42 n l s = 0 := by rw [Z42,if_pos h,if_pos h2]
theorem Zc3 {n s : Int} (h : Z15 n l = 0) (h2 : ¬ (0 ≤ s ∧ s < n)) : Z42 n l s = 2 := by rw [Z42,if_pos h,if_neg h2]
theorem ret_i {x y : Int} (h : x = y) : Ending.returned (.int .i64 x) = .returned (.int .i64 y) := by rw [h]
set_option maxHeartbeats 1000000 in
theorem Zfu (n s : Int) (a : Option Addr) (cap : Nat) (w : World) (hl : IsArcs w.heap.size w a len l) :
  Calls Tryz.prog 85 #[.agg #[.int .i64 n,.slice a len cap],.int .i64 s] w fun e w' => e = .returned (.int .i64 (Z42 n l s)) ∧ Below w.heap.size w w' := by
 have HG := hid (Box.make (Below.refl _ w) n a len cap); have HL := hid hl; clear hl; by_cases hc : Z15 n l = 0
 ·by_cases hs : 0 ≤ s ∧ s < n
  ·have HE := hid (Z7o hc hs)
   have HC := hid hc; have HS := hid hs; clear hc hs; go_enter Tryz.func85,Tryz.ntmps85
   go_wp2_with (first
    | (go_at_call 114; refine (Z4r n cap a _ (HG.out.arcsHere HL.out)).mono ?_; rw [HC.out]; rintro e w1 ⟨rfl,hb1⟩; have HG1 := hid (HG.out.later hb1); have x0 := HG1.out.c0; have x1 := HG1.out.c1; clear hb1)
    | (go_at_call 115; refine (Z3d HS.out a len cap _).mono ?_; rintro e w2 ⟨rfl,hb2⟩; have HG2 := hid (HG1.out.later hb2); clear hb2))
   go_ret
   exact ⟨ret_i HE.out.symm,HG2.out.below⟩
  ·have HE := hid (Zc3 hc hs)
   have HC := hid hc; have HS := hid hs; clear hc hs; go_enter Tryz.func85,Tryz.ntmps85
   go_wp2_with (first
    | (go_at_call 114; refine (Z4r n cap a _ (HG.out.arcsHere HL.out)).mono ?_; rw [HC.out]; rintro e w1 ⟨rfl,hb1⟩; have HG1 := hid (HG.out.later hb1); have x0 := HG1.out.c0; have x1 := HG1.out.c1; clear hb1)
    | (go_at_call 115; refine (Zhq HS.out a len cap _).mono ?_; rintro e w2 ⟨rfl,hb2⟩; have HG2 := hid (HG1.out.later hb2); clear hb2))
   go_ret
   exact ⟨ret_i HE.out.symm,HG2.out.below⟩
 ·have HE := hid (Zc2 (s := s) hc)
  have hcb : (Z15 n l != 0) = true := by simpa using hc
  have HCA := hid (fun (W : World) (h : IsArcs W.heap.size W a len l) => Z4r n cap a W h); generalize Z15 n l = v at *; clear hc; go_enter Tryz.func85,Tryz.ntmps85
  go_wp2_with (go_at_call 114; refine (HCA.out _ (HG.out.arcsHere HL.out)).mono ?_; rintro e w1 ⟨rfl,hb1⟩; have HG1 := hid (HG.out.later hb1); have x0 := HG1.out.c0; have x1 := HG1.out.c1; clear hb1)
  go_ret
  exact ⟨ret_i HE.out.symm,HG1.out.below⟩
theorem Z69 {w : World} {r : Nat} {u v : Value} {T : TypeId} (h : w.heap[r]? = some (.cells #[u,v] T (0,0))) (x y : Value) :
  ((w.setCell ⟨r,0,none⟩ x).setCell ⟨r,1,none⟩ y).heap[r]? = some (.cells #[x,y] T (0,0)) ∧ (w.setCell ⟨r,0,none⟩ x).cell? ⟨r,0,none⟩ = some x ∧ ((w.setCell ⟨r,0,none⟩ x).setCell ⟨r,1,none⟩ y).cell? ⟨r,1,none⟩ = some y := by
 have h1 := heap_setCell_same w r 0 _ _ x h; have h2 := heap_setCell_same _ r 1 _ _ y h1; exact ⟨h2,by simp [World.cell?,h1],by simp [World.cell?,h2]⟩
end Go.Proofs.YtfkommjlmolniaaGreatDoor
end
section

namespace Go.Proofs.YtfkommjlmolniaaGreatDoor
set_option maxHeartbeats 16000000
set_option maxRecDepth 100000
open Go.Lib (hid)
open Go.RowKit
variable {w w2 wr : World} {base N g cap : Nat} {f f2 : Nat → Int} {v : Value}
theorem IntRow.set_ {k : Nat} (h : IntRow w base (.slice (some ⟨g,0,none⟩) N cap) N f) (hk : k < N) (u : Int) : IntRow (w.setCell ⟨g,k,none⟩ (.int .i64 u)) base (.slice (some ⟨g,0,none⟩) N cap) N (fun t => if t = k then u else f t) := by
 have := (World.ownsRow.stored h k (.int .i64 u)).1; rw [Zdk hk] at this; exact this
theorem IntRow.congr (h : IntRow w base v N f) (e : ∀ i,i < N → f i = f2 i) : IntRow w base v N f2 := by
 unfold IntRow; rw [← Z7l e]; exact h
theorem IntRow.kept {S : Nat → Prop} (h : IntRow w base v N f) (hm : Mod S w w2) (hs : ∀ k,v.ownBlock = some k → ¬ S k) : IntRow w2 base v N f := Z1a h hm hs
theorem IntRow.rebase {base' : Nat} (h : IntRow w base v N f) (hb : base' ≤ base) : IntRow w base' v N f := Z1y h hb
theorem IntRow.base_ (h : IntRow w base (.slice (some ⟨g,0,none⟩) N cap) N f) : base ≤ g ∧ g < w.heap.size := World.ownsRow.lt h g rfl
def far0 (s : Nat) : Nat → Option Int := fun i => if i = s then some 0 else none
structure BegW (w wr : World) (rs gf gb N : Nat) : Prop where
 below : Below w.heap.size w wr
 res : wr.heap[rs]? = some (.cells #[.slice none 0 0,.slice none 0 0] 117 (0,0))
 ge : w.heap.size ≤ rs
 far : LongRow wr (rs + 1) (.slice (some ⟨gf,0,none⟩) N N) N (fun _ => 1152921504606846976)
 by_ : IntRow wr (rs + 1) (.slice (some ⟨gb,0,none⟩) N N) N (fun _ => -1)
 ne : gf ≠ gb
theorem BegW.alloc {rs gf gb : Nat} (h : BegW w wr rs gf gb N) (o : Obj) : BegW w (wr.alloc o) rs gf gb N :=
 ⟨h.below.alloc h.below.size _,(Below.heap_alloc _ _ _ (Array.getElem?_eq_some_iff.1 h.res).1).trans h.res,h.ge,h.far.below ((Below.refl _ _).alloc (Nat.le_refl _) _),h.by_.below ((Below.refl _ _).alloc (Nat.le_refl _) _),h.ne⟩
theorem Zh1 (s t : Nat) : (if t = s then 0 else 1152921504606846976) = valI (far0 s) t := by
 by_cases e : t = s <;> simp [valI,far0,e]
theorem BegW.done {rs gf gb s : Nat} (h : BegW w wr rs gf gb N) (hs : s < N) (x y : Value) :
  let W := ((wr.setCell ⟨gf,s,none⟩ (.int .i64 0)).setCell ⟨rs,0,none⟩ x).setCell ⟨rs,1,none⟩ y
  W.heap[rs]? = some (.cells #[x,y] 117 (0,0)) ∧ LongRow W w.heap.size (.slice (some ⟨gf,0,none⟩) N N) N (valI (far0 s)) ∧ IntRow W w.heap.size (.slice (some ⟨gb,0,none⟩) N N) N (fun _ => -1) ∧ Below w.heap.size w W := by
 intro W; have h1 := h.far.base_; have h2 := h.by_.base_; have hge := h.ge; have hne := h.ne; have hm1 : Mod (fun k => k = gf) wr (wr.setCell ⟨gf,s,none⟩ (.int .i64 0)) := (Mod.refl (fun k => k = gf) wr).setCell (p := ⟨gf,s,none⟩) (.inr rfl) _; have hm2 : Mod (fun k => k = rs) (wr.setCell ⟨gf,s,none⟩ (.int .i64 0)) W := ((Mod.refl (fun k => k = rs) _).setCell (p := ⟨rs,0,none⟩) (.inr rfl) _).setCell (p := ⟨rs,1,none⟩) (.inr rfl) _; have hr := (hm1.block rs (Array.getElem?_eq_some_iff.1 h.res).1 (by omega)).trans h.res
 refine ⟨(Z69 hr x y).1,((h.far.set_ hs 0).congr (fun i _ => Zh1 s i)).kept hm2 (fun k hk (e : k = rs) => by have e2 : gf = k := Option.some.inj hk; omega) |>.rebase (by omega),((h.by_.kept hm1 (fun k hk (e : k = gf) => by have e2 : gb = k := Option.some.inj hk; omega)).kept hm2 (fun k hk (e : k = rs) => by have e2 : gb = k := Option.some.inj hk; omega)).rebase (by omega),?_⟩
 refine ((Mod.of_below (fun k => k = gf ∨ k = rs) h.below).trans ((hm1.mono (fun _ _ hk => .inl hk)).trans (hm2.mono (fun _ _ hk => .inr hk)))).below (Nat.le_refl _) (fun k hk => by omega)
theorem BegW.make {w1 w2 : World} {gf gb : Nat} (h1 : LongRow w1 (w.heap.size + 2) (.slice (some ⟨gf,0,none⟩) N N) N (fun _ => 1152921504606846976)) (hb1 : Below (w.heap.size + 2) ((w.alloc (.cells #[.slice none 0 0,.slice none 0 0] 117)).alloc (.cells #[.int .i64 1152921504606846976] 2)) w1)
  (h2 : IntRow w2 (w1.heap.size + 1) (.slice (some ⟨gb,0,none⟩) N N) N (fun _ => -1)) (hb2 : Below (w1.heap.size + 1) (w1.alloc (.cells #[.int .i64 (-1)] 3)) w2) : BegW w w2 w.heap.size gf gb N := by
 have hs1 : w.heap.size + 2 ≤ w1.heap.size := by have := hb1.size; simp at this; omega
 have hb2' : Below w1.heap.size w1 w2 := ((Below.refl w1.heap.size w1).alloc (Nat.le_refl _) _).trans (hb2.mono (by omega))
 have hb1' : Below w.heap.size w w1 := (((Below.refl _ w).alloc (Nat.le_refl _) _).alloc (by simp) _).trans (hb1.mono (by omega))
 have b1 := h1.base_; have b2 := h2.base_; refine ⟨hb1'.trans (hb2'.mono (by omega)),?_,Nat.le_refl _,(h1.below hb2').rebase (by omega),h2.rebase (by omega),by omega⟩
 rw [hb2'.block _ (by omega),hb1.block _ (by omega)]
 exact heap_alloc2_old _ _ _
theorem Zh2 {rs gf gb : Nat} {o : Obj} (h0 : BegW w w2 rs gf gb N) (h : BegW w (w2.alloc o) rs gf gb N) : (w2.alloc o).cell? ⟨rs,0,none⟩ = some (.slice none 0 0) ∧ (w2.alloc o).cell? ⟨rs,1,none⟩ = some (.slice none 0 0) ∧ (∀ k,(w2.alloc o).frozen? ⟨rs,k,none⟩ = false) ∧ ¬ gf = w2.heap.size ∧ ¬ gf = rs ∧ ¬ rs = w2.heap.size := by
 have := h0.far.base_; have hl := (Array.getElem?_eq_some_iff.1 h0.res).1; exact ⟨by simp [World.cell?,h.res],by simp [World.cell?,h.res],fun k => by simp [World.frozen?,h.res],by omega,by omega,by omega⟩
theorem Zh3 : (Tryz.prog.info? 117).map (fun i => i.size) = some 2 := by kernel_rfl
theorem Zh4 (N s : Nat) (hs : s < N) (hN : N ≤ 1000) (w : World) :
  Calls Tryz.prog 88 #[.int .i64 (N : Int),.int .i64 (s : Int)] w fun e w' => ∃ gf gb,e = .returned (.agg #[.slice (some ⟨gf,0,none⟩) N N,.slice (some ⟨gb,0,none⟩) N N]) ∧
   LongRow w' w.heap.size (.slice (some ⟨gf,0,none⟩) N N) N (valI (far0 s)) ∧ IntRow w' w.heap.size (.slice (some ⟨gb,0,none⟩) N N) N (fun _ => -1) ∧ gf ≠ gb ∧ Below w.heap.size w w' := by
 have h1 : 1 ≤ N := by omega
 have hs1 : (0 : Int) ≤ (s : Int) := by omega
 have hs2 : (s : Int) < (N : Int) := by omega
 obtain ⟨big,hbig⟩ : ∃ b : Int,b = 1152921504606846976 := ⟨_,rfl⟩; have HBIG := hid hbig; clear hbig; go_enter Tryz.func88,Tryz.ntmps88
 go_wp2_with (first
  | (go_at_call 117; refine (Zlu 1152921504606846976 N _ _ h1 hN (by simp)).mono ?_; rintro e w1 ⟨gf,rfl,hr1,hb1⟩; have HR1 := hid hr1; have HB1 := hid hb1; clear hr1 hb1)
  | (go_at_call 113; refine (Znn (-1) N _ _ h1 hN (by simp)).mono ?_; rintro e w2 ⟨gb,rfl,hr2,hb2⟩; have HB0 := hid (BegW.make (by simpa using HR1.out) (by simpa using HB1.out) (by simpa using hr2) (by simpa using hb2)); have HW2 := hid (HB0.out.alloc (.cells #[.slice (some ⟨gf,0,none⟩) N N,.slice (some ⟨gb,0,none⟩) N N] 117)); have q1 := HW2.out.far.cell hs; have q2 := HW2.out.far.frozen s; obtain ⟨q4,q5,q6,q7,q8,q9⟩ := Zh2 HB0.out HW2.out; clear hr2 hb2))
 obtain ⟨g1,g2,g3,g4⟩ := HW2.out.done hs (.slice (some ⟨gf,0,none⟩) N N) (.slice (some ⟨gb,0,none⟩) N N); exact bodyPost_ret (v := .agg #[.slice (some ⟨gf,0,none⟩) N N,.slice (some ⟨gb,0,none⟩) N N]) (results_cell_row rfl _ _ w.heap.size 117 _ (0,0) _ rfl g1 Tryz.underlying117 rfl Zh3) rfl ⟨gf,gb,rfl,g2,g3,HW2.out.ne,g4⟩
end Go.Proofs.YtfkommjlmolniaaGreatDoor
end
section

namespace Go.Proofs.YtfkommjlmolniaaGreatDoor
open Go.RowKit
def outK (l : List Ar) (i : Nat) : List Int := (l.zipIdx.filter (fun p => p.1.1 == (i : Int))).map (fun p => (p.2 : Int))
theorem Zgb (l : List Ar) (x : Ar) (i : Nat) : outK (l ++ [x]) i = if x.1 = (i : Int) then outK l i ++ [(l.length : Int)] else outK l i := by
 unfold outK; rw [List.zipIdx_append,List.filter_append,List.map_append]; by_cases h : x.1 = (i : Int) <;> simp [h]
theorem Z45 {l : List Ar} {k : Nat} {x : Ar} (h : l[k]? = some x) (i : Nat) : outK (l.take (k + 1)) i = if x.1 = (i : Int) then outK (l.take k) i ++ [(k : Int)] else outK (l.take k) i := by
 have hk : k < l.length := (List.getElem?_eq_some_iff.1 h).1; have hl : (l.take k).length = k := by rw [List.length_take]; omega
 have h2 := Zgb (l.take k) x i; rw [hl] at h2; rw [List.take_add_one,h]; exact h2
theorem Zgc (l : List Ar) (i : Nat) : (outK l i).length ≤ l.length := by
 unfold outK; rw [List.length_map]; refine Nat.le_trans (List.length_filter_le _ _) ?_; simp
theorem mem_outK {l : List Ar} {i : Nat} {v : Int} : v ∈ outK l i ↔ ∃ (k : Nat) (x : Ar),v = (k : Int) ∧ l[k]? = some x ∧ x.1 = (i : Int) := by
 unfold outK; rw [List.mem_map]; constructor
 ·rintro ⟨⟨x,k⟩,h,rfl⟩
  rw [List.mem_filter] at h; exact ⟨k,x,rfl,List.mk_mem_zipIdx_iff_getElem?.1 h.1,by simpa using h.2⟩
 ·rintro ⟨k,x,rfl,hx,hi⟩
  exact ⟨(x,k),List.mem_filter.2 ⟨List.mk_mem_zipIdx_iff_getElem?.2 hx,by simpa using hi⟩,rfl⟩
variable {w wr w2 w4 : World} {a : Option Addr} {len cap B g L N g' cap' f co tb : Nat} {l : List Ar} {n t : Int} {V : Nat → Value} {R : Nat → List Int} {o : Obj} {vf vb : Value}
structure AdjK (B : Nat) (w : World) (co L N : Nat) (V : Nat → Value) (R : Nat → List Int) : Prop where
 ge : B ≤ L
 lt : L < co
 out : w.rowIs L 37 N V
 var : w.heap[co]? = some (.cells #[.slice (some ⟨L,0,none⟩) N N] 135 (0,0))
 row : ∀ i,i < N → w.ownsRow (co + 1) 3 1 (V i) (R i).length (numsV (R i))
 apart : ∀ i j,i < N → j < N → i ≠ j → ∀ b,(V i).ownBlock = some b → (V j).ownBlock ≠ some b
theorem AdjK.ltc (h : AdjK B w co L N V R) : co < w.heap.size := (Array.getElem?_eq_some_iff.1 h.var).1
theorem AdjK.later (h : AdjK B w co L N V R) (hb : Below w.heap.size w w2) : AdjK B w2 co L N V R :=
 ⟨h.ge,h.lt,Z0a h.out hb,(hb.block co h.ltc).trans h.var,fun i hi => Z06 (h.row i hi) hb,h.apart⟩
theorem AdjK.kept {S : Nat → Prop} (h : AdjK B w co L N V R) (hm : Mod S w w2) (hs : ∀ k,L ≤ k → k < w.heap.size → ¬ S k) : AdjK B w2 co L N V R :=
 ⟨h.ge,h.lt,h.out.of_block (hm.block L h.out.lt (hs L (Nat.le_refl _) h.out.lt)),(hm.block co h.ltc (hs co (Nat.le_of_lt h.lt) h.ltc)).trans h.var,
  fun i hi => Z1a (h.row i hi) hm (fun k hk => hs k (by have := (World.ownsRow.lt (h.row i hi) k hk).1; have := h.lt; omega) (World.ownsRow.lt (h.row i hi) k hk).2),h.apart⟩
theorem AdjK.congr {R2 : Nat → List Int} (h : AdjK B w co L N V R) (e : ∀ i,i < N → R i = R2 i) : AdjK B w co L N V R2 :=
 ⟨h.ge,h.lt,h.out,h.var,fun i hi => by rw [← e i hi]; exact h.row i hi,h.apart⟩
theorem AdjK.cell (h : AdjK B w co L N V R) : w.cell? ⟨co,0,none⟩ = some (.slice (some ⟨L,0,none⟩) N N) := by simp [World.cell?,h.var]
theorem AdjK.push (h : AdjK B w co L N V R) (hf : f < N) (hown : w4.ownsRow (co + 1) 3 1 (.slice (some ⟨g',0,none⟩) ((R f).length + 1) cap') ((R f).length + 1) (numsV (R f) ++ [.int .i64 t]))
  (hgrow : w.grownBy w4 (V f).ownBlock) (hfr : (V f).ownBlock = some g' ∨ g' = w.heap.size) :
  AdjK B (w4.setCell ⟨L,f,none⟩ (.slice (some ⟨g',0,none⟩) ((R f).length + 1) cap')) co L N (fun j => if j = f then .slice (some ⟨g',0,none⟩) ((R f).length + 1) cap' else V j) (fun j => if j = f then R f ++ [t] else R j) ∧
  w4.cell? ⟨L,f,none⟩ = some (V f) ∧ w4.frozen? ⟨L,f,none⟩ = false := by
 have hlt : ∀ i,i < N → ∀ k,(V i).ownBlock = some k → co + 1 ≤ k ∧ k < w.heap.size := fun i hi k hk => World.ownsRow.lt (h.row i hi) k hk; have hlc := h.lt; have ho4 : w4.rowIs L 37 N V := h.out.of_block (hgrow.block L h.out.lt (fun e => by have := (hlt f hf L e.symm).1; omega))
 have hv4 : w4.heap[co]? = some (.cells #[.slice (some ⟨L,0,none⟩) N N] 135 (0,0)) := (hgrow.block co h.ltc (fun e => by have := (hlt f hf co e.symm).1; omega)).trans h.var
 refine ⟨⟨h.ge,h.lt,ho4.set f _,?_,fun i hi => ?_,fun i j hi hj hij b hb => ?_⟩,ho4.cell hf,ho4.frozen f⟩
 ·rw [RowKit.Below.heap_setCell _ _ _ _ (by simp only; omega)]
  exact hv4
 ·by_cases e : i = f
  ·subst e
   simp only [if_true,List.length_append,List.length_singleton,Z2r]
   exact ownsRow_setCell_other hown (fun e => by have := (World.ownsRow.lt hown _ e).1; simp at this; omega) _
  ·simp only [e,if_false]
   refine ownsRow_setCell_other ((h.row i hi).kept hgrow ?_) (fun e2 => by have := (hlt i hi _ e2).1; simp at this; omega) _
   cases hv : (V i).ownBlock with
   | none => exact .inl rfl
   | some b => exact .inr (fun e2 => h.apart i f hi hf e b hv (by rw [← e2]))
 ·have new : ∀ b,some g' = some b → ∀ i,i < N → i ≠ f → (V i).ownBlock ≠ some b := fun b hb i hi hif he => by
   cases hb
   rcases hfr with hfr | hfr
   ·exact h.apart i f hi hf hif g' he hfr
   ·have := (hlt i hi _ he).2
    omega
  by_cases e1 : i = f
  ·subst e1
   simp only [if_true] at hb
   rw [if_neg (fun e => hij e.symm)]; exact new b hb j hj (fun e => hij e.symm)
  ·rw [if_neg e1] at hb
   by_cases e2 : j = f
   ·rw [if_pos e2]
    intro he; exact new b he i hi e1 hb
   ·rw [if_neg e2]
    exact h.apart i j hi hj hij b hb
theorem AdjK.start (hL : wr.heap.size = L) (hB : B ≤ L) (N : Nat) : AdjK B ((wr.alloc (.cells (madeCells #[.slice none 0 0] N) 37)).alloc (.cells #[.slice (some ⟨L,0,none⟩) N N] 135)) (L + 1) L N (fun _ => .slice none 0 0) (outK (l.take 0)) := by
 subst hL; exact ⟨hB,Nat.lt_succ_self _,(World.rowIs_made _ _ _ _).of_block (Below.heap_alloc _ _ _ (by simp)),heap_alloc2_new _ _ _,fun i _ => World.ownsRow_nil _ _ _ 1,fun i j _ _ _ b hb => by cases hb⟩
structure LookerW (w wr : World) (tb g : Nat) (vf vb : Value) (n : Int) (a : Option Addr) (len cap co L N : Nat) (V : Nat → Value) (R : Nat → List Int) : Prop where
 box : Box w wr g n a len cap
 tree : wr.heap[tb]? = some (.cells #[vf,vb] 117 (0,0))
 adj : AdjK w.heap.size wr co L N V R
 lt : g < L
 lt0 : tb < g
theorem LookerW.later (h : LookerW w wr tb g vf vb n a len cap co L N V R) (hb : Below wr.heap.size wr w2) : LookerW w w2 tb g vf vb n a len cap co L N V R :=
 ⟨h.box.later hb,(hb.block tb (Array.getElem?_eq_some_iff.1 h.tree).1).trans h.tree,h.adj.later hb,h.lt,h.lt0⟩
theorem LookerW.push (h : LookerW w wr tb g vf vb n a len cap co L N V R) (hf : f < N) (hown : w4.ownsRow (co + 1) 3 1 (.slice (some ⟨g',0,none⟩) ((R f).length + 1) cap') ((R f).length + 1) (numsV (R f) ++ [.int .i64 t]))
  (hgrow : wr.grownBy w4 (V f).ownBlock) (hfr : (V f).ownBlock = some g' ∨ g' = wr.heap.size) :
  LookerW w (w4.setCell ⟨L,f,none⟩ (.slice (some ⟨g',0,none⟩) ((R f).length + 1) cap')) tb g vf vb n a len cap co L N (fun j => if j = f then .slice (some ⟨g',0,none⟩) ((R f).length + 1) cap' else V j) (fun j => if j = f then R f ++ [t] else R j) := by
 have hlt : ∀ k,(V f).ownBlock = some k → co + 1 ≤ k ∧ k < wr.heap.size := fun k hk => World.ownsRow.lt (h.adj.row f hf) k hk; have hge := h.adj.ge; have hlc := h.adj.lt; have hl1 := h.lt; have hl0 := h.lt0; have hm : Mod (fun k => (V f).ownBlock = some k ∨ k = L) wr (w4.setCell ⟨L,f,none⟩ (.slice (some ⟨g',0,none⟩) ((R f).length + 1) cap')) :=
  ((Mod.refl _ wr).grown hgrow (fun k hk => .inr (.inl hk))).setCell (p := ⟨L,f,none⟩) (.inr (.inr rfl)) _
 have hS : ∀ k,((V f).ownBlock = some k ∨ k = L) → L ≤ k := fun k hk => by
  rcases hk with hk | hk
  ·have := (hlt k hk).1; omega
  ·omega
 refine ⟨⟨((Mod.of_below (fun k => (V f).ownBlock = some k ∨ k = L) h.box.below).trans hm).below (Nat.le_refl _) (fun k hk => Nat.le_trans hge (hS k hk)),h.box.ge,?_⟩,?_,(h.adj.push hf hown hgrow hfr).1,h.lt,h.lt0⟩
 ·rw [hm.block g h.box.lt (fun hk => by have := hS g hk; omega)]
  exact h.box.blk
 ·rw [hm.block tb (Array.getElem?_eq_some_iff.1 h.tree).1 (fun hk => by have := hS tb hk; omega)]
  exact h.tree
theorem Zeb (w : World) (vf vb : Value) (N : Nat) (a : Option Addr) (len cap : Nat) (o o2 : Obj) : Box w ((((w.alloc (.cells #[vf,vb] 117)).alloc (.cells #[.int .i64 (N : Int),.slice a len cap] 95)).alloc o).alloc o2) (w.heap.size + 1) (N : Int) a len cap := by
 have h := ((Box.make ((Below.refl w.heap.size w).alloc (Nat.le_refl _) (.cells #[vf,vb] 117)) (N : Int) a len cap).alloc o).alloc o2; simpa using h
theorem Zbc (w : World) (vf vb : Value) (o o2 o3 : Obj) : ((((w.alloc (.cells #[vf,vb] 117)).alloc o).alloc o2).alloc o3).heap[w.heap.size]? = some (.cells #[vf,vb] 117 (0,0)) := by
 rw [Below.heap_alloc _ _ _ (by simp; omega),Below.heap_alloc _ _ _ (by simp; omega),Below.heap_alloc _ _ _ (by simp)]
 exact heap_alloc_new _ _
theorem LookerW.congr {R2 : Nat → List Int} (h : LookerW w wr tb g vf vb n a len cap co L N V R) (e : ∀ i,i < N → R i = R2 i) : LookerW w wr tb g vf vb n a len cap co L N V R2 := ⟨h.box,h.tree,h.adj.congr e,h.lt,h.lt0⟩
end Go.Proofs.YtfkommjlmolniaaGreatDoor
end
section

namespace Go.Proofs.YtfkommjlmolniaaGreatDoor
set_option maxHeartbeats 16000000
set_option maxRecDepth 100000
open Go.Lib (hid)
open Go.RowKit
variable {w wr w2 w4 : World} {a : Option Addr} {len cap L N ab co : Nat} {l : List Ar} {f t : Int} {S : Nat → Prop} {vf vb : Value}
def LkS (ab co L N : Nat) (f : Int) (W : World) : Prop := W.cell? ⟨ab,0,none⟩ = some (.int .i64 f) ∧ W.cell? ⟨co,0,none⟩ = some (.slice (some ⟨L,0,none⟩) N N) ∧ ab < W.heap.size ∧ co < W.heap.size
theorem LkS.mod (h : LkS ab co L N f w) (hm : Mod S w w2) (h1 : ¬ S ab) (h2 : ¬ S co) : LkS ab co L N f w2 :=
 ⟨(hm.cell (p := ⟨ab,0,none⟩) h.2.2.1 h1).trans h.1,(hm.cell (p := ⟨co,0,none⟩) h.2.2.2 h2).trans h.2.1,Nat.lt_of_lt_of_le h.2.2.1 hm.size,Nat.lt_of_lt_of_le h.2.2.2 hm.size⟩
theorem LkS.made (hco : co < w.heap.size) (hc : w.cell? ⟨co,0,none⟩ = some (.slice (some ⟨L,0,none⟩) N N)) (f t c : Int) (T : TypeId) : LkS w.heap.size co L N f (w.alloc (.cells #[.int .i64 f,.int .i64 t,.int .i64 c] T)).drew :=
 ⟨by simp,(World.cell?_alloc_past _ _ _ hco).trans hc,by simp,by simp; omega⟩
theorem Zfo (N : Nat) (hN : N ≤ 1000) (hlen : len ≤ 20000) (hok : ∀ x ∈ l,okA (N : Int) x = true) (a : Option Addr) (cap : Nat) (vf vb : Value) (w : World) (hl : IsArcs w.heap.size w a len l) :
  Calls Tryz.prog 89 #[.agg #[vf,vb],.agg #[.int .i64 (N : Int),.slice a len cap]] w fun e w' => ∃ tb g co L V,e = .returned (.func (.func 118) #[] #[.pointer (some ⟨co,0,none⟩),.pointer (some ⟨g,0,none⟩),.pointer (some ⟨tb,0,none⟩)]) ∧
   LookerW w w' tb g vf vb (N : Int) a len cap co L N V (outK l) ∧ w.heap.size ≤ tb := by
 have hmf : ∀ (fn : Fn) (first cap : Array Value) (w : World),(Instr.makeFunc fn first cap).run Tryz.prog w = .ok (.func fn first cap) w := fun _ _ _ _ => rfl
 obtain ⟨i0,hi,hz0,hz1,hz2⟩ := info_parts Zid; have hmk := run_make_row' (P := Tryz.prog) 135 37 (.slice none 0 0) 24 Tryz.underlying135 Zl7 rfl .i64 .i64 N (by omega) (by omega)
 have HOK := hid hok; clear hok; have HLn : Hid (l.length = len) := hid hl.1; have HL := hid hl; clear hl; have HG0 : Hid (LookerW w ((((w.alloc (.cells #[vf,vb] 117)).alloc (.cells #[.int .i64 (N : Int),.slice a len cap] 95)).alloc (.cells (madeCells #[.slice none 0 0] N) 37)).alloc (.cells #[.slice (some ⟨w.heap.size + 1 + 1,0,none⟩) N N] 135)) w.heap.size (w.heap.size + 1) vf vb (N : Int) a len cap (w.heap.size + 1 + 1 + 1) (w.heap.size + 1 + 1) N (fun _ => .slice none 0 0) (outK (l.take 0))) :=
  hid ⟨Zeb w vf vb N a len cap _ _,Zbc w vf vb _ _ _,AdjK.start (L := w.heap.size + 1 + 1) (by simp) (by omega) N,by omega,by omega⟩
 go_enter Tryz.func89,Tryz.ntmps89
 go_wp2_with fail
 clear hmk; obtain ⟨g,hg⟩ : ∃ g,w.heap.size + 1 = g := ⟨_,rfl⟩; obtain ⟨L,hL⟩ : ∃ L,g + 1 = L := ⟨_,rfl⟩; obtain ⟨co,hco⟩ : ∃ co,L + 1 = co := ⟨_,rfl⟩; rw [hg,hL,hco] at HG0 ⊢; clear hg hL hco; go_loopw [14] (fun i wr => ∃ (k : Nat) (V : Nat → Value),i = .int .i64 k ∧ k ≤ len ∧ Hid (LookerW w wr w.heap.size g vf vb (N : Int) a len cap co L N V (outK (l.take k)))) (fun i _ => len - (intOf i).toNat)
 case atStart => exact ⟨0,_,rfl,Nat.zero_le _,HG0⟩
 case round =>
  obtain ⟨k,V,rfl,hk,HX⟩ := hrel; clear HG0; by_cases hlt : k < len
  ·obtain ⟨b,off,x,rfl,hb,hx,e0,e1,e2⟩ := (HX.out.box.arcs HL.out).at_ hlt
   have hxok := okA_true.1 (HOK.out x (List.mem_of_getElem? hx)); have HXT := hid (fun i => Z45 hx i); clear hx hb; obtain ⟨f0,t,c⟩ := x; simp only at e0 e1 e2 hxok
   obtain ⟨f,rfl⟩ : ∃ f : Nat,f0 = (f : Int) := ⟨f0.toNat,by omega⟩
   have hf : f < N := by omega
   have hf1 : (0 : Int) ≤ (f : Int) := by omega
   have hf2 : (f : Int) < (N : Int) := by omega
   clear hxok; obtain ⟨va,vc,hv⟩ := Z04 (HX.out.adj.row f hf); have HX1 := hid (HX.out.later ((Below.refl wr.heap.size wr).alloc (Nat.le_refl _) (.cells #[.int .i64 (f : Int),.int .i64 t,.int .i64 c] 121)).drew); have hml : (outK (l.take k) f).length ≤ 20000 := Nat.le_trans (Zgc _ _) (by rw [List.length_take]; omega)
   have HV := hid hv; have HO1 := HX1.out.adj.row f hf; have c1 := HX1.out.adj.out.cell hf; rw [hv] at HO1 c1; have HO := hid HO1; have HAB : Hid ((Value.slice va (outK (l.take k) f).length vc).ownBlock ≠ some wr.heap.size) := hid (fun e => by have := (World.ownsRow.lt (HX.out.adj.row f hf) wr.heap.size (by rw [hv]; exact e)).2; omega)
   have HCB : Hid ((Value.slice va (outK (l.take k) f).length vc).ownBlock ≠ some co) := hid (fun e => by have := (World.ownsRow.lt (HX.out.adj.row f hf) co (by rw [hv]; exact e)).1; omega)
   have HLL : Hid (L < co ∧ co < wr.heap.size) := hid ⟨HX.out.adj.lt,HX.out.adj.ltc⟩; have HA0 := hid (LkS.made HX.out.adj.ltc HX.out.adj.cell (f : Int) t c 121); clear hv HO1 HX; go_wp2_with fail
   refine wp_region_held_drew (S := LkS wr.heap.size co L N (f : Int)) (by kernel_rfl) HA0.out (fun hHeld => ?_)
   refine stpT 0 hHeld ?_ (y := fun W0 hW => by obtain ⟨hW1,hW2,hW3,hW4⟩ := hW; go_simp; (try with_reducible rfl))
   try go_frame
   refine stpT 1 hHeld ?_ (y := fun W0 hW => by obtain ⟨hW1,hW2,hW3,hW4⟩ := hW; go_simp; (try with_reducible rfl))
   try go_frame
   refine stpT 2 hHeld ?_ (y := fun W0 hW => by obtain ⟨hW1,hW2,hW3,hW4⟩ := hW; go_simp; (try with_reducible rfl))
   try go_frame
   refine stpT 3 hHeld ?_ (y := fun W0 hW => by obtain ⟨hW1,hW2,hW3,hW4⟩ := hW; go_simp; (try with_reducible rfl))
   try go_frame
   refine stpT 4 hHeld ?_ (y := fun W0 hW => by obtain ⟨hW1,hW2,hW3,hW4⟩ := hW; go_simp; (try with_reducible rfl))
   try go_frame
   refine stpT 5 hHeld ?_ (y := fun W0 hW => by obtain ⟨hW1,hW2,hW3,hW4⟩ := hW; go_simp; (try with_reducible rfl))
   try go_frame
   refine stpT 6 hHeld ?_ (y := fun W0 hW => by obtain ⟨hW1,hW2,hW3,hW4⟩ := hW; go_simp; (try with_reducible rfl))
   try go_frame
   refine stpT 8 hHeld ?_ (y := fun W0 hW => by obtain ⟨hW1,hW2,hW3,hW4⟩ := hW; go_simp; (try with_reducible rfl))
   try go_frame
   have c2 : ((wr.alloc (.cells #[.int .i64 (f : Int),.int .i64 t,.int .i64 c] 121)).alloc (.cells #[.int .i64 (k : Int)] 3)).cell? ⟨L,f,none⟩ = some (.slice va (outK (l.take k) f).length vc) := (World.cell?_alloc_past _ _ _ HX1.out.adj.out.lt).trans c1; have HO2 : Hid ((World.alloc ((wr.alloc (.cells #[.int .i64 (f : Int),.int .i64 t,.int .i64 c] 121)).drew) (.cells #[.int .i64 (k : Int)] 3)).ownsRow (co + 1) 3 1 (.slice va (outK (l.take k) f).length vc) (outK (l.take k) f).length (numsV (outK (l.take k) f))) := hid (HO.out.alloc _); refine wpAnyH_ready (rs := [7,9]) (by kernel_rfl) (by simp) ?_
   refine AllReadyH.cons rfl (fun K hK => ?_) (AllReadyH.cons rfl (fun K hK => ?_) AllReadyH.nil)
   ·go_simp
    refine hK.out _ _ ?_ (fun hHeld => ?_)
    ·exact hHeld
    clear hK K; try go_frame
    refine stpR 9 (fun K hK => ?_); go_simp; refine hK.out _ _ ?_ (fun hHeld => ?_)
    ·exact hHeld.mod ((Mod.refl (fun _ => False) _).alloc _) (fun h => h) (fun h => h)
    clear hK K; try go_frame
    refine stpR 10 (fun K hK => ?_); refine Z01 rfl (.tmp 26) (.tmp 28) 37 rfl (co + 1) 3 i0 _ 1 8 Tryz.underlying37 hi hz0 hz1 hz2 (by decide) (.slice va (outK (l.take k) f).length vc) (outK (l.take k) f).length (numsV (outK (l.take k) f)) rfl HO2.out ⟨wr.heap.size + 1,0,none⟩ 1 [.int .i64 (k : Int)] rfl rfl (Z1b _ _ _ _ (by simp)) (Z2y _) (by unfold maxLen; omega) (by omega) (by have := HLL.out; simp; omega) ?_
    intro g4 cp4 w4 hown hgrow hfr; have HXA := HX1.out.later ((Below.refl ((wr.alloc (.cells #[.int .i64 (f : Int),.int .i64 t,.int .i64 c] 121)).drew).heap.size ((wr.alloc (.cells #[.int .i64 (f : Int),.int .i64 t,.int .i64 c] 121)).drew)).alloc (Nat.le_refl _) (.cells #[.int .i64 (k : Int)] 3)); rw [← HV.out] at hgrow hfr; obtain ⟨_,c4,d4⟩ := HXA.adj.push hf hown hgrow hfr; have HP := hid (HXA.push hf hown hgrow hfr); have x4 : LkS wr.heap.size co L N (f : Int) w4 := HA0.out.mod (((Mod.refl (fun k => (V f).ownBlock = some k) ((wr.alloc (.cells #[.int .i64 (f : Int),.int .i64 t,.int .i64 c] 121)).drew)).alloc (.cells #[.int .i64 (k : Int)] 3)).grown hgrow (fun k hk => .inr hk)) (by rw [HV.out]; exact HAB.out) (by rw [HV.out]; exact HCB.out)
    clear hown hgrow hfr HXA; refine hK.out _ _ ?_ (fun hHeld => ?_)
    ·exact x4
    clear hK K; try go_frame
    refine stpT 11 hHeld ?_ (y := fun W0 hW => by obtain ⟨hW1,hW2,hW3,hW4⟩ := hW; go_simp; (try with_reducible rfl))
    try go_frame
    refine stpR 12 (fun K hK => ?_); go_simp; refine hK.out _ _ ?_ (fun hHeld => ?_)
    ·exact x4.mod ((Mod.refl (fun b => b = L) _).setCell (p := ⟨L,f,none⟩) (.inr rfl) _) (fun h => by have h2 : wr.heap.size = L := h; have := HLL.out; omega) (fun h => by have h2 : co = L := h; have := HLL.out; omega)
    clear hK K; try go_frame
    refine wpAnyH_done (by kernel_rfl) ?_ _
    clear hHeld; go_wp2_with fail
    go_roundw
    case rel => exact ⟨k + 1,_,by go_num,by omega,hid (HP.out.congr (fun i _ => Zao (HXT.out i) (fun e => by rw [e])))⟩
    case measure => simp [intOf]; omega
   ·go_simp
    refine hK.out _ _ ?_ (fun hHeld => ?_)
    ·exact hHeld.mod ((Mod.refl (fun _ => False) _).alloc _) (fun h => h) (fun h => h)
    clear hK K; try go_frame
    refine stpR 7 (fun K hK => ?_); go_simp; refine hK.out _ _ ?_ (fun hHeld => ?_)
    ·exact hHeld
    clear hK K; try go_frame
    refine stpR 10 (fun K hK => ?_); refine Z01 rfl (.tmp 26) (.tmp 28) 37 rfl (co + 1) 3 i0 _ 1 8 Tryz.underlying37 hi hz0 hz1 hz2 (by decide) (.slice va (outK (l.take k) f).length vc) (outK (l.take k) f).length (numsV (outK (l.take k) f)) rfl HO2.out ⟨wr.heap.size + 1,0,none⟩ 1 [.int .i64 (k : Int)] rfl rfl (Z1b _ _ _ _ (by simp)) (Z2y _) (by unfold maxLen; omega) (by omega) (by have := HLL.out; simp; omega) ?_
    intro g4 cp4 w4 hown hgrow hfr; have HXA := HX1.out.later ((Below.refl ((wr.alloc (.cells #[.int .i64 (f : Int),.int .i64 t,.int .i64 c] 121)).drew).heap.size ((wr.alloc (.cells #[.int .i64 (f : Int),.int .i64 t,.int .i64 c] 121)).drew)).alloc (Nat.le_refl _) (.cells #[.int .i64 (k : Int)] 3)); rw [← HV.out] at hgrow hfr; obtain ⟨_,c4,d4⟩ := HXA.adj.push hf hown hgrow hfr; have HP := hid (HXA.push hf hown hgrow hfr); have x4 : LkS wr.heap.size co L N (f : Int) w4 := HA0.out.mod (((Mod.refl (fun k => (V f).ownBlock = some k) ((wr.alloc (.cells #[.int .i64 (f : Int),.int .i64 t,.int .i64 c] 121)).drew)).alloc (.cells #[.int .i64 (k : Int)] 3)).grown hgrow (fun k hk => .inr hk)) (by rw [HV.out]; exact HAB.out) (by rw [HV.out]; exact HCB.out)
    clear hown hgrow hfr HXA; refine hK.out _ _ ?_ (fun hHeld => ?_)
    ·exact x4
    clear hK K; try go_frame
    refine stpT 11 hHeld ?_ (y := fun W0 hW => by obtain ⟨hW1,hW2,hW3,hW4⟩ := hW; go_simp; (try with_reducible rfl))
    try go_frame
    refine stpR 12 (fun K hK => ?_); go_simp; refine hK.out _ _ ?_ (fun hHeld => ?_)
    ·exact x4.mod ((Mod.refl (fun b => b = L) _).setCell (p := ⟨L,f,none⟩) (.inr rfl) _) (fun h => by have h2 : wr.heap.size = L := h; have := HLL.out; omega) (fun h => by have h2 : co = L := h; have := HLL.out; omega)
    clear hK K; try go_frame
    refine wpAnyH_done (by kernel_rfl) ?_ _
    clear hHeld; go_wp2_with fail
    go_roundw
    case rel => exact ⟨k + 1,_,by go_num,by omega,hid (HP.out.congr (fun i _ => Zao (HXT.out i) (fun e => by rw [e])))⟩
    case measure => simp [intOf]; omega
  ·have hk2 : l.take k = l := List.take_of_length_le (by have := HLn.out; omega)
   rw [hk2] at HX; clear hk2; go_wp2_with fail
   go_ret
   exact ⟨_,_,_,_,V,rfl,HX.out,Nat.le_refl _⟩
end Go.Proofs.YtfkommjlmolniaaGreatDoor
end
