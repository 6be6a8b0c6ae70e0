/- The walk of the law on Reach. -/
import Derived.Test.YtkjiednhllmknaaGAwake
import Derived.Test.YtkjiednhllmknaaLGraph
import Derived.Test.YtkjiednhllmknaaComes
import Derived.Test.YtkjiednhllmknaaEqRows
namespace Go.Proofs.Ytkjiednhllmknaa
open Go.RowKit

variable {len N : Nat} {l : List Ar} {a : Option Addr} {B : Nat} {w : World}
theorem IsLinks.small (h : IsLinks B w a len l) : ∀ x ∈ l, -32768 ≤ x.2.2 ∧ x.2.2 ≤ 32767 := by
  intro x hx
  rcases h.2 with h0 | ⟨b, off, _, _, hr⟩
  · have : l = [] := List.eq_nil_of_length_eq_zero (by rw [h.1]; exact h0)
    subst this
    cases hx
  · obtain ⟨k, hk⟩ := List.getElem?_of_mem hx
    have := hr k x hk
    omega
theorem arcs_check (hN : 1 ≤ N) (hN8 : N ≤ 8) (hl : ∀ x ∈ l, -32768 ≤ x.2.2 ∧ x.2.2 ≤ 32767) (k : Nat) : checkV (N : Int) (arcsTo (N : Int) l k) = 0 := by
  refine checkV_zero.2 ⟨⟨by omega, by omega, Nat.le_trans (arcsTo_len _ _ _) (by omega)⟩, fun y hy => ?_⟩
  obtain ⟨x, hx, rfl⟩ := arcsTo_mem hy
  have := hl x hx
  have h1 := Int.emod_nonneg x.1 (show (N : Int) ≠ 0 by omega)
  have h2 := Int.emod_lt_of_pos x.1 (show (0 : Int) < (N : Int) by omega)
  have h3 := Int.emod_nonneg x.2.1 (show (N : Int) ≠ 0 by omega)
  have h4 := Int.emod_lt_of_pos x.2.1 (show (0 : Int) < (N : Int) by omega)
  exact okA_true.2 ⟨⟨h1, h2⟩, ⟨h3, h4⟩, by simp only [arcOf]; omega, by simp only [arcOf]; omega⟩

set_option maxHeartbeats 2000000 in
set_option maxRecDepth 100000 in
theorem graphReaches_walk (n : Int) (hn : (Lit.int .u8 n).wf = true) (a : Option Addr) (cap : Nat) (s : Int) (w : World) (hbig : len ≤ maxLen) (hl : IsLinks w.heap.size w a len l) :
    Calls Try.prog 5 #[.int .u8 n, .slice a len cap, .int .i64 s] w fun e w' => e = .returned (.bool true) ∧ Below w.heap.size w w' := by
  unfold maxLen at hbig
  simp [Lit.wf, IntKind.min, IntKind.max, IntKind.signed, IntKind.bits] at hn
  obtain ⟨hn1, hn2⟩ := hn
  obtain ⟨N, hN⟩ : ∃ N : Nat, 1 + n % 8 = (N : Int) := ⟨(1 + n % 8).toNat, by omega⟩
  have hN1 : 1 ≤ N := by omega
  have hN8 : N ≤ 8 := by omega
  have HM := Lib.hid (fun W (h : IsLinks W.heap.size W a len l) => maker_any n hn1 (by omega) a cap W hbig h)
  have HC := Lib.hid (arcs_check hN1 hN8 hl.small len)
  have HLl : Hid ((arcsTo (N : Int) l len).length ≤ 24) := Lib.hid (arcsTo_len _ _ _)
  have HL := Lib.hid hl; clear hl
  rw [hN] at HM
  clear hN hn1 hn2
  generalize arcsTo (N : Int) l len = xs at HM HC HLl
  by_cases hs : 0 ≤ s ∧ s < (N : Int)
  · obtain ⟨q, rfl⟩ : ∃ q : Nat, s = (q : Int) := ⟨s.toNat, by omega⟩
    have hq : q < N := by omega
    have q1 : ¬ (q : Int) < 0 := by omega
    have q2 : (q : Int) < (N : Int) := by omega
    clear hs
    go_enter Try.func5, Try.ntmps5
    go_wp2_with (first
      | (go_at_call 7; refine (graph_awake _).mono ?_; rintro e w1 ⟨rfl, hb1⟩; have HB1 := Lib.hid hb1; clear hb1)
      | (go_at_call 13; refine (HM.out _ ((HL.out.later HB1.out).mono HB1.out.size)).mono ?_; rintro e w2 ⟨lv, rfl, hrow, hb2⟩; obtain ⟨la, lc, hv⟩ := owns_shape hrow; subst hv; have HA2 := Lib.hid (owns_arcs hrow).2; have HB2 := Lib.hid (HB1.out.trans (hb2.mono HB1.out.size)); have HG3 := Lib.hid (Box.make HB2.out (N : Int) la xs.length lc); have HA3 := Lib.hid ((HA2.out.later ((Below.refl _ w2).alloc (Nat.le_refl _) (.cells #[.int .i64 (N : Int), .slice la xs.length lc] 24))).mono (show w2.heap.size ≤ (w2.alloc (.cells #[.int .i64 (N : Int), .slice la xs.length lc] 24)).heap.size by simp)); clear hrow hb2)
      | (go_at_call 14; refine (reach_any N q hq la lc _ HA3.out HC.out).mono ?_; rintro e w4 ⟨C, c, rfl, hm, _, hiff, hb4⟩; have HG4 := Lib.hid (HG3.out.later hb4); have HA4 := Lib.hid ((HA3.out.later hb4).mono hb4.size); have HM4 := Lib.hid hm; have HI4 := Lib.hid hiff; have x0 := HG4.out.c0; have x1 := HG4.out.c1; clear hm hiff hb4)
      | (go_at_call 16; refine (comes_any N q hq (by omega) (by have := HLl.out; omega) (checkV_zero.1 HC.out).2 la lc _ HA4.out).mono ?_; rintro e w5 ⟨C2, c2, rfl, hm, _, hiff, hb5⟩; have HG5 := Lib.hid (HG4.out.later hb5); have HM5 := Lib.hid (rowIs_below HM4.out hb5); have HM6 := Lib.hid hm; have HI6 := Lib.hid hiff; clear hm hiff hb5)
      | (go_at_call 15; refine (eqBools HM5.out HM6.out (fun i hi => Bool.eq_iff_iff.2 ((HI4.out i hi).trans (HI6.out i hi).symm)) (by omega)).mono ?_; rintro e w6 ⟨rfl, mm, hw6⟩; have HB6 : Hid (Below w.heap.size w w6) := Lib.hid (by rw [hw6]; exact below_drewN HG5.out.below mm); clear hw6))
    go_ret
    exact ⟨rfl, HB6.out⟩
  · have HS := Lib.hid hs
    by_cases q1 : s < 0
    · clear hs
      go_enter Try.func5, Try.ntmps5
      go_wp2_with (first
        | (go_at_call 7; refine (graph_awake _).mono ?_; rintro e w1 ⟨rfl, hb1⟩; have HB1 := Lib.hid hb1; clear hb1)
        | (go_at_call 13; refine (HM.out _ ((HL.out.later HB1.out).mono HB1.out.size)).mono ?_; rintro e w2 ⟨lv, rfl, hrow, hb2⟩; obtain ⟨la, lc, hv⟩ := owns_shape hrow; subst hv; have HA2 := Lib.hid (owns_arcs hrow).2; have HB2 := Lib.hid (HB1.out.trans (hb2.mono HB1.out.size)); have HG3 := Lib.hid (Box.make HB2.out (N : Int) la xs.length lc); have HA3 := Lib.hid ((HA2.out.later ((Below.refl _ w2).alloc (Nat.le_refl _) (.cells #[.int .i64 (N : Int), .slice la xs.length lc] 24))).mono (show w2.heap.size ≤ (w2.alloc (.cells #[.int .i64 (N : Int), .slice la xs.length lc] 24)).heap.size by simp)); clear hrow hb2)
        | (go_at_call 14; refine (reach_no (N : Int) s la lc _ HA3.out HC.out HS.out).mono ?_; rintro e w4 ⟨rfl, hb4⟩; have HG4 := Lib.hid (HG3.out.later hb4); have x0 := HG4.out.c0; have x1 := HG4.out.c1; clear hb4))
      go_ret
      exact ⟨rfl, HG4.out.below⟩
    · have q2 : ¬ s < (N : Int) := by omega
      clear hs
      go_enter Try.func5, Try.ntmps5
      go_wp2_with (first
        | (go_at_call 7; refine (graph_awake _).mono ?_; rintro e w1 ⟨rfl, hb1⟩; have HB1 := Lib.hid hb1; clear hb1)
        | (go_at_call 13; refine (HM.out _ ((HL.out.later HB1.out).mono HB1.out.size)).mono ?_; rintro e w2 ⟨lv, rfl, hrow, hb2⟩; obtain ⟨la, lc, hv⟩ := owns_shape hrow; subst hv; have HA2 := Lib.hid (owns_arcs hrow).2; have HB2 := Lib.hid (HB1.out.trans (hb2.mono HB1.out.size)); have HG3 := Lib.hid (Box.make HB2.out (N : Int) la xs.length lc); have HA3 := Lib.hid ((HA2.out.later ((Below.refl _ w2).alloc (Nat.le_refl _) (.cells #[.int .i64 (N : Int), .slice la xs.length lc] 24))).mono (show w2.heap.size ≤ (w2.alloc (.cells #[.int .i64 (N : Int), .slice la xs.length lc] 24)).heap.size by simp)); clear hrow hb2)
        | (go_at_call 14; refine (reach_no (N : Int) s la lc _ HA3.out HC.out HS.out).mono ?_; rintro e w4 ⟨rfl, hb4⟩; have HG4 := Lib.hid (HG3.out.later hb4); have x0 := HG4.out.c0; have x1 := HG4.out.c1; clear hb4))
      go_ret
      exact ⟨rfl, HG4.out.below⟩
end Go.Proofs.Ytkjiednhllmknaa
