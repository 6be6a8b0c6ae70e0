/- Package graph: Out. -/
import Derived.Test.YtkjiednhllmknaaCheck
import Derived.Test.YtkjiednhllmknaaOwn
import Derived.OneCell
namespace Go.Proofs.Ytkjiednhllmknaa
open Go.RowKit

/-- The numbers of those of the first k arcs that lead from node i. -/
def outNo (l : List Ar) (i : Int) : Nat → List Int
  | 0 => []
  | k + 1 => match l[k]? with
    | some x => if x.1 = i then outNo l i k ++ [(k : Int)] else outNo l i k
    | none => outNo l i k
variable {w wr w2 w4 : World} {a : Option Addr} {len cap B B2 g g' cap' k : Nat} {l : List Ar} {n i t : Int} {x : Ar} {lv : Value} {xs : List Int} {o : Obj}
theorem outNo_yes (hx : l[k]? = some x) (h : x.1 = i) : outNo l i k ++ [(k : Int)] = outNo l i (k + 1) := by rw [outNo, hx]; simp [h]
theorem outNo_no (hx : l[k]? = some x) (h : ¬ x.1 = i) : outNo l i k = outNo l i (k + 1) := by rw [outNo, hx]; simp [h]
theorem outNo_le (l : List Ar) (i : Int) : ∀ k, (outNo l i k).length ≤ k
  | 0 => Nat.le_refl _
  | k + 1 => by
    have := outNo_le l i k
    rw [outNo]
    split
    · split
      · simp; omega
      · omega
    · omega
theorem Box.kept {S : Nat → Prop} (h : Box w wr g n a len cap) (hm : Mod S wr w2) (hS : ∀ k, S k → w.heap.size ≤ k) (hg : ¬ S g) : Box w w2 g n a len cap :=
  ⟨((Mod.of_below S h.below).trans hm).below (Nat.le_refl _) hS, h.ge, (hm.block g h.lt hg).trans h.blk⟩

/-- A graph's box, and a row of numbers of the call's own. -/
structure OutW (w wr : World) (g : Nat) (n : Int) (a : Option Addr) (len cap : Nat) (lv : Value) (xs : List Int) : Prop where
  box : Box w wr g n a len cap
  row : wr.ownsRow (g + 1) 3 1 lv xs.length (numsV xs)
theorem OutW.start (h : Box w wr g n a len cap) : OutW w wr g n a len cap (.slice none 0 0) [] := ⟨h, World.ownsRow_nil _ _ _ 1⟩
theorem OutW.later (h : OutW w wr g n a len cap lv xs) (hb : Below wr.heap.size wr w2) : OutW w w2 g n a len cap lv xs := ⟨h.box.later hb, owns_below h.row hb⟩
theorem OutW.push (h : OutW w wr g n a len cap lv xs) (hown : w4.ownsRow (g + 1) 3 1 (.slice (some ⟨g', 0, none⟩) (xs.length + 1) cap') (xs.length + 1) (numsV xs ++ [.int .i64 t])) (hgrow : (wr.alloc o).grownBy w4 lv.ownBlock) :
    OutW w w4 g n a len cap (.slice (some ⟨g', 0, none⟩) (xs.length + 1) cap') (xs ++ [t]) := by
  have hm : Mod (fun k => lv.ownBlock = some k) wr w4 := ((Mod.refl _ wr).alloc o).grown hgrow (fun k hk => .inr hk)
  have hC : ∀ k, lv.ownBlock = some k → g + 1 ≤ k := fun k hk => (World.ownsRow.lt h.row k hk).1
  refine ⟨h.box.kept hm (fun k hk => by have := hC k hk; have := h.box.ge; omega) (fun e => by have := hC _ e; omega), ?_⟩
  rw [numsV_snoc, List.length_append]
  exact hown
theorem infoIntO : (Try.prog.info? 3).map (fun i => (i.zero, i.size, i.bytes)) = some (some (.int .i64 0), 1, 8) := by kernel_rfl

set_option maxHeartbeats 1000000 in
set_option maxRecDepth 100000 in
theorem out_any (n i : Int) (hlen : len ≤ 1000000) (a : Option Addr) (cap : Nat) (w : World) (hl : IsArcs w.heap.size w a len l) :
    Calls Try.prog 12 #[.agg #[.int .i64 n, .slice a len cap], .int .i64 i] w fun e w' => ∃ v, e = .returned v ∧ w'.ownsRow w.heap.size 3 1 v (outNo l i len).length (numsV (outNo l i len)) ∧ Below w.heap.size w w' := by
  obtain ⟨i0, hi, hz0, hz1, hz2⟩ := info_parts infoIntO
  have HL := Lib.hid hl; clear hl
  have HG0 : Hid (OutW w (w.alloc (.cells #[.int .i64 n, .slice a len cap] 24)) w.heap.size n a len cap (.slice none 0 0) (outNo l i 0)) := Lib.hid (OutW.start (Box.make (Below.refl _ w) n a len cap))
  go_enter Try.func12, Try.ntmps12
  go_wp2_with fail
  go_loopw [5, 11] (fun lv j wr => ∃ (k : Nat), j = .int .i64 k ∧ k ≤ len ∧ Hid (OutW w wr w.heap.size n a len cap lv (outNo l i k))) (fun _ j _ => len - (intOf j).toNat)
  case atStart => exact ⟨0, rfl, Nat.zero_le _, HG0⟩
  case round =>
    obtain ⟨k, rfl, hk, HX⟩ := hrel
    clear HG0
    by_cases hlt : k < len
    · obtain ⟨b, off, x, rfl, hb, hx, e0, e1, e2⟩ := (HX.out.box.arcs HL.out).at_ hlt
      have HXX := Lib.hid hx
      clear hx hb
      obtain ⟨f, t, c⟩ := x
      simp only at e0 e1 e2
      have HX1 := Lib.hid (HX.out.later ((Below.refl wr.heap.size wr).alloc (Nat.le_refl _) (.cells #[.int .i64 f, .int .i64 t, .int .i64 c] 28)))
      have hol : (outNo l i k).length ≤ k := outNo_le l i k
      have HSZ : Hid (w.heap.size + 1 ≤ wr.heap.size) := Lib.hid HX.out.box.lt
      obtain ⟨la, lc, hv⟩ := owns_shape HX.out.row
      subst hv
      clear HX
      by_cases hf : f = i
      · have HN := Lib.hid (outNo_yes HXX.out hf)
        subst hf
        go_wp2_with (at_builtin; refine wpList_append_fresh rfl (.tmp 20) (.tmp 22) 32 rfl (w.heap.size + 1) 3 i0 _ 1 8 Try.underlying32 hi hz0 hz1 hz2 (by decide) (.slice la (outNo l f k).length lc) (outNo l f k).length (numsV (outNo l f k)) rfl (HX1.out.row.alloc _) ⟨wr.heap.size + 1, 0, none⟩ 1 [.int .i64 (k : Int)] rfl rfl (news_at _ _ _ _ (by simp)) (one_int _) (by unfold maxLen; omega) (by omega) (by have := HSZ.out; simp; omega) ?_; intro g' cap' w5 hown hgrow hfr; have HP := Lib.hid (HX1.out.push hown hgrow); clear hown hgrow hfr)
        go_roundw
        case rel => exact ⟨k + 1, by go_num, by omega, by rw [← HN.out]; exact HP⟩
        case measure => simp [intOf]; omega
      · have HN := Lib.hid (outNo_no HXX.out hf)
        have hf2 : (f == i) = false := by simpa using hf
        clear hf
        go_wp2_with fail
        go_roundw
        case rel => exact ⟨k + 1, by go_num, by omega, by rw [← HN.out]; exact HX1⟩
        case measure => simp [intOf]; omega
    · obtain rfl : k = len := by omega
      obtain ⟨la, lc, hv⟩ := owns_shape HX.out.row
      subst hv
      go_wp2_with fail
      go_ret
      exact ⟨_, rfl, owns_rebase HX.out.row (by omega), HX.out.box.below⟩
end Go.Proofs.Ytkjiednhllmknaa
