/- Joined: CopyN, CloneL. -/
import Derived.Test.YtbenmebmfihleaaLawNet
import Derived.Laws.CopyOwn
import Derived.Laws.IdiomCopy
import Derived.Test.YtbenmebmfihleaaMFlowT
import Derived.Laws.AppendOwn
section
/- builtin copy of what came in into a row that was just made; a row of the call's own as numbers. -/
namespace Go.Proofs.Ytbenmebmfihleaa
open Go.RowKit

variable {N g m : Nat} {w w2 : World} {b : Option Addr} {zs : List Int} {f : Nat → Int}
theorem infoLong9 : (Try.prog.info? 2).map (·.size) = some 1 := by kernel_rfl
/-- copy of what came in into a row that was just made: as many as there are, and as there is room for. -/
theorem copy_nums {sT ty : TypeId} {cc : Nat} (hi : IsNums w.heap.size w b m zs) (hg : w.heap[g]? = some (.cells (madeCells #[.int .i64 0] N) 2 (0, 0))) :
    ∃ (k : Nat) (w4 : World), (Builtin.copy_ #[31, sT] ty #[.slice (some ⟨g, 0, none⟩) N N, .slice b m cc]).run Try.prog w = .ok (.int .i64 (k : Int)) w4 ∧ w4.rowIs g 2 N (fun i => .int .i64 (zs.getD i 0)) ∧ Below g w w4 := by
  obtain ⟨k, hk⟩ : ∃ k, k = Nat.min m N := ⟨_, rfl⟩
  have hkm : k ≤ m := by rw [hk]; exact Nat.min_le_left _ _
  have hkN : k ≤ N := by rw [hk]; exact Nat.min_le_right _ _
  have hkk : k = m ∨ k = N := by
    rcases Nat.le_total m N with h | h
    · exact .inl (hk.trans (Nat.min_eq_left h))
    · exact .inr (hk.trans (Nat.min_eq_right h))
  refine ⟨k, ?_⟩
  by_cases h0 : k = 0
  · have hc := run_copy_none (P := Try.prog) w 31 sT ty 2 (some ⟨g, 0, none⟩) b N N m cc Try.underlying31 infoLong9 (hk.symm.trans h0)
    rw [h0]
    refine ⟨w, hc, ⟨_, hg, size_madeCells _ _, fun i hi2 => ?_⟩, Below.refl _ _⟩
    have hz : zs = [] := List.eq_nil_of_length_eq_zero (by rw [hi.1]; omega)
    subst hz
    simp [madeCells, hi2, Nat.mod_one]
  · obtain ⟨hl, hr⟩ := hi
    rcases hr with hr | ⟨bb, off, rfl, hb, hr⟩
    · omega
    · have hlen : (zs.take k).length = k := by rw [List.length_take]; omega
      have hc := run_copy_row (P := Try.prog) w 31 sT ty 2 g 0 N N ⟨bb, off, none⟩ m cc _ 2 ((zs.take k).map (Value.int .i64)) Try.underlying31 infoLong9 hg (by rw [List.length_map, hlen]; exact hk) (fun j v hj => by
        rw [List.getElem?_map] at hj
        cases hx : (zs.take k)[j]? with
        | none => rw [hx] at hj; cases hj
        | some x =>
          rw [hx] at hj
          injection hj with hj
          subst hj
          rw [Addr.add_lit]
          rw [List.getElem?_take] at hx
          by_cases hjN : j < k
          · rw [if_pos hjN] at hx; exact hr j x hx
          · rw [if_neg hjN] at hx; cases hx) (by rw [List.length_map, hlen, size_madeCells]; omega) (fun v hv => by
        rw [List.mem_map] at hv
        obtain ⟨y, _, rfl⟩ := hv
        rfl)
      rw [List.length_map, hlen] at hc
      refine ⟨_, hc, ⟨_, setRow_heap _ _ _ _ _ _ hg, ?_, fun i hi => ?_⟩, below_setRow (Below.refl _ _) (Nat.le_refl _) _⟩
      · simp only [List.take_zero, List.nil_append, List.size_toArray, List.length_append, List.length_map, hlen, List.length_drop, Array.length_toList, size_madeCells, Nat.zero_add]
        omega
      · simp only [List.take_zero, List.nil_append, List.getElem?_toArray, Nat.zero_add]
        by_cases him : i < k
        · have hx : zs[i]? = some (zs[i]'(by omega)) := List.getElem?_eq_getElem (by omega)
          rw [List.getElem?_append_left (by rw [List.length_map, hlen]; exact him), List.getElem?_map, List.getElem?_take, if_pos him, hx]
          simp [List.getD, hx]
        · have hn : zs[i]? = none := List.getElem?_eq_none (by omega)
          rw [List.getElem?_append_right (by rw [List.length_map, hlen]; omega), List.length_map, hlen, List.getElem?_drop, Array.getElem?_toList]
          have e : k + (i - k) = i := by omega
          rw [e]
          simp [madeCells, hi, hn, List.getD, Nat.mod_one]
theorem nums_of (h : w.rowIs g 2 N (fun i => .int .i64 (f i))) : IsNums w.heap.size w (some ⟨g, 0, none⟩) N ((List.range N).map f) := by
  refine ⟨by simp, .inr ⟨g, 0, rfl, h.lt, fun j x hx => ?_⟩⟩
  have hj : j < N := by have := (List.getElem?_eq_some_iff.1 hx).1; simpa using this
  simp [hj] at hx
  subst hx
  rw [Nat.zero_add]
  exact h.cell hj
end Go.Proofs.Ytbenmebmfihleaa
end
section
/- slices.Clone at numbers. -/
namespace Go.Proofs.Ytbenmebmfihleaa
open Go.RowKit

variable {w wr w2 : World} {a : Option Addr} {n c : Nat} {zs : List Int}
theorem infoLongC : (Try.prog.info? 2).map (fun i => (i.zero, i.size, i.bytes)) = some (some (.int .i64 0), 1, 8) := by kernel_rfl
theorem rowF_nums (h : zs.length = n) : rowF n (flOf zs) = zs.map (Value.int .i64) := by
  apply List.ext_getElem?
  intro j
  by_cases hj : j < n
  · have hx : zs[j]? = some (zs[j]'(by omega)) := List.getElem?_eq_getElem (by omega)
    rw [rowF_get _ hj, List.getElem?_map, hx]
    simp [flOf, List.getD, hx]
  · rw [List.getElem?_eq_none (by rw [rowF_length]; omega), List.getElem?_eq_none (by simp; omega)]
theorem none_row (w : World) : (w.alloc (.cells #[] 2)).ownsRow w.heap.size 2 1 (.slice (some ⟨w.heap.size, 0, none⟩) 0 0) 0 [] :=
  ⟨rfl, .inr ⟨w.heap.size, 0, #[], rfl, Nat.le_refl _, heap_alloc_new _ _, Nat.le_refl _, Nat.zero_le _, rfl, rfl⟩⟩
theorem nums_src {ad : Addr} (hi : IsNums w.heap.size w (some ad) n zs) (o : Obj) : ∀ (j : Nat) (u : Value), (zs.map (Value.int .i64))[j]? = some u → (w.alloc o).cell? (ad.add j) = some u := fun j u hj => by
  rw [List.getElem?_map] at hj
  cases hx : zs[j]? with
  | none => rw [hx] at hj; cases hj
  | some x =>
    rw [hx] at hj
    injection hj with hj
    subst hj
    have hjl := (List.getElem?_eq_some_iff.1 hx).1
    rcases hi.2 with h0 | ⟨b, off, e, hb, hr⟩
    · have := hi.1; omega
    · injection e with e
      subst e
      rw [Addr.add_lit]
      exact ((((Below.refl w.heap.size w).alloc (Nat.le_refl _) o).cell (p := ⟨b, off + j, none⟩) hb)).trans (hr j x hx)
set_option maxHeartbeats 1000000 in
set_option maxRecDepth 100000 in
theorem clone64 (n c : Nat) (a : Option Addr) (zs : List Int) (w : World) (hn : n ≤ 1000000) (hi : IsNums w.heap.size w a n zs) :
    Calls Try.prog 15 #[.slice a n c] w fun e w' => Below w.heap.size w w' ∧ ∃ v, e = .returned v ∧ LongRow w' w.heap.size v n (flOf zs) := by
  cases a with
  | none =>
    obtain rfl : n = 0 := by
      rcases hi.2 with h | ⟨b, o, h, _⟩
      · exact h
      · cases h
    have hnil : ∀ w, (binOp .eql 31 (.slice none 0 c) (.slice none 0 0)).run Try.prog w = .ok (.bool true) w := fun w => by kernel_rfl
    go_enter Try.func15, Try.ntmps15
    go_wp2_with fail
    go_ret
    exact ⟨Below.refl _ _, _, rfl, by simp [rowF], .inl ⟨rfl, rfl⟩⟩
  | some ad =>
    have hnil : ∀ w, (binOp .eql 31 (.slice (some ad) n c) (.slice none 0 0)).run Try.prog w = .ok (.bool false) w := fun w => by kernel_rfl
    go_enter Try.func15, Try.ntmps15
    obtain ⟨i0, hi0, hz0, hz1, hz2⟩ := info_parts infoLongC
    have hl := hi.1
    have HS := Lib.hid (nums_src hi (.cells #[] 2))
    have HRW := Lib.hid (none_row w)
    have hsz : w.heap.size ≤ (w.alloc (.cells #[] 2)).heap.size := by simp
    clear hi
    go_wp2_with (at_builtin; refine wpList_append_own _ rfl (.tmp 5) (.tmp 6) 31 rfl w.heap.size 2 i0 _ 1 8 Try.underlying31 hi0 hz0 hz1 hz2 (by decide) (by decide) (.slice (some ⟨w.heap.size, 0, none⟩) 0 0) 0 [] rfl HRW.out ad n c (zs.map (Value.int .i64)) rfl (by simp [hl]) HS.out (by intro u hu; rw [List.mem_map] at hu; obtain ⟨y, _, rfl⟩ := hu; rfl) (by unfold maxLen; omega) (by omega) hsz ?_; intro v' w' hown hgrow _; have HOW := Lib.hid hown; have HGR := Lib.hid hgrow; clear hown hgrow)
    go_ret
    have h1 := HOW.out
    rw [List.nil_append, Nat.zero_add, ← rowF_nums hl] at h1
    exact ⟨((((Mod.refl (fun k => w.heap.size ≤ k) w).alloc (.cells #[] 2)).grown HGR.out (fun k hk => .inl (by have e : w.heap.size = k := (by simpa [Value.ownBlock] using hk); omega)))).below (Nat.le_refl _) (fun k hk => hk), _, rfl, h1⟩
end Go.Proofs.Ytbenmebmfihleaa
end
