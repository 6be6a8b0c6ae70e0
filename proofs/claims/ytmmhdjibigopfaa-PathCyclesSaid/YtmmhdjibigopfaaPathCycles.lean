/- The walk of the law on Cycle. -/
import Derived.Test.YtmmhdjibigopfaaPathFroms
import Derived.Test.YtmmhdjibigopfaaComes
namespace Go.Proofs.Ytmmhdjibigopfaa
open Go.RowKit

variable {len cap N s g g1 : Nat} {l : List Ar} {w wr w2 : World} {a : Option Addr} {B : Nat} {vf vb : Value}
/-- The graph's box, its arcs. -/
structure BoxA (w wr : World) (g N : Nat) (a : Option Addr) (len cap : Nat) (l : List Ar) : Prop where
  box : Box w wr g (N : Int) a len cap
  arcs : IsArcs wr.heap.size wr a len l
theorem BoxA.later (h : BoxA w wr g N a len cap l) (hb : Below wr.heap.size wr w2) : BoxA w w2 g N a len cap l := ⟨h.box.later hb, (h.arcs.later hb).mono hb.size⟩
theorem PathSpec.cycle_none (P : PathSpec) (hs : s < N) (hc : checkV (N : Int) l = 0) (hn : ¬ Neg l s) (cap : Nat) (w : World) (hl : IsArcs w.heap.size w a len l) :
    Calls Try.prog 12 #[.agg #[.int .i64 (N : Int), .slice a len cap], .int .i64 (s : Int)] w fun e w' => Below w.heap.size w w' ∧ ∃ a1 c1, e = .returned (.slice a1 0 c1) :=
  (P.cycle_ok N s len cap l a w hs hc hl).mono fun e w' ⟨hb, v, ws, h1, h2, h3, _⟩ => ⟨hb, by
    have := h3 hn
    subst this
    obtain ⟨a1, c1, e1⟩ := owns_shape h2
    subst e1
    exact ⟨a1, c1, h1⟩⟩
theorem PathSpec.cycle_some (P : PathSpec) (hs : s < N) (hc : checkV (N : Int) l = 0) (hn : Neg l s) (cap : Nat) (w : World) (hl : IsArcs w.heap.size w a len l) :
    Calls Try.prog 12 #[.agg #[.int .i64 (N : Int), .slice a len cap], .int .i64 (s : Int)] w fun e w' => Below w.heap.size w w' ∧
      ∃ (gw cw k i : Nat) (W : Int) (r : List Int) (x : Ar), e = .returned (.slice (some ⟨gw, 0, none⟩) (r.length + 1) cw) ∧ w'.ownsRow w.heap.size 3 1 (.slice (some ⟨gw, 0, none⟩) (r.length + 1) cw) ((k : Int) :: r).length (numsV ((k : Int) :: r)) ∧
        joinO l ((k : Int) :: r) (i : Int) 0 = some ((i : Int), W) ∧ W < 0 ∧ Comes l s i ∧ l[k]? = some x ∧ x.1 = (i : Int) ∧ i < N ∧ r.length + 1 ≤ N :=
  (P.cycle_ok N s len cap l a w hs hc hl).mono fun e w' ⟨hb, v, ws, h1, h2, _, h3⟩ => ⟨hb, by
    obtain ⟨h4, h5, i, W, h6, h7, h8⟩ := h3 hn
    obtain ⟨k, x, r, e1, e2, e3⟩ := join_first h6 h5
    subst e1
    obtain ⟨gw, cw, e4, _⟩ := owns_some h2 (by simp)
    subst e4
    have := okA_true.1 ((checkV_zero.1 hc).2 x (List.mem_of_getElem? e2))
    exact ⟨gw, cw, k, i, W, r, x, by simpa using h1, by simpa using h2, h6, h7, h8, e2, e3, by omega, by simpa using h4⟩⟩

set_option maxHeartbeats 4000000 in
set_option maxRecDepth 100000 in
theorem pathCycles_walk (P : PathSpec) (hawake : ∀ w, Calls Try.prog 7 #[] w fun e w' => e = .returned (.bool true) ∧ Below w.heap.size w w')
    (n : Int) (hn : (Lit.int .u8 n).wf = true) (a : Option Addr) (cap : Nat) (f : Int) (hf : (Lit.int .u8 f).wf = true) (w : World) (hbig : len ≤ maxLen) (hl : IsLinks w.heap.size w a len l) :
    Calls Try.prog 4 #[.int .u8 n, .slice a len cap, .int .u8 f] w fun e w' => e = .returned (.bool true) ∧ Below w.heap.size w w' := by
  unfold maxLen at hbig
  obtain ⟨⟨hn1, hn2⟩, ⟨hf1, hf2⟩, N, q, hN, hN1, hN8, hq, hqN⟩ := law_starts hn hf
  clear hn hf
  have HM := Lib.hid (fun W (h : IsLinks W.heap.size W a len l) => maker_any n hn1 (by omega) a cap W hbig h)
  have HC := Lib.hid (arcs_check7 hN1 hN8 hl.small7 len)
  have HLl : Hid ((arcsTo (N : Int) l len).length ≤ 24) := Lib.hid (arcsTo_len _ _ _)
  have HL := Lib.hid hl; clear hl
  rw [hN] at HM
  clear hN hn1 hn2
  generalize arcsTo (N : Int) l len = xs at HM HC HLl
  have hNz : ¬ (N : Int) = 0 := by omega
  have hNb : ((N : Int) == 0) = false := by simpa using hNz
  by_cases hneg : Neg xs q
  · have HN := Lib.hid hneg; clear hneg
    have HOK := Lib.hid (checkV_zero.1 HC.out).2
    go_enter Try.func4, Try.ntmps4
    go_wp2_with (first
      | (go_at_call 7; refine (hawake _).mono ?_; rintro e w1 ⟨rfl, hb1⟩; have HB1 := Lib.hid hb1; clear hb1)
      | (go_at_call 8; refine (HM.out _ ((HL.out.later HB1.out).mono HB1.out.size)).mono ?_; rintro e w2 ⟨lv, rfl, hrow, hb2⟩; obtain ⟨la, lc, hv⟩ := owns_shape hrow; subst hv; have HA2 := Lib.hid (owns_arcs hrow).2; have HB2 := Lib.hid (HB1.out.trans (hb2.mono HB1.out.size)); have HG3 := Lib.hid (Box.make HB2.out (N : Int) la xs.length lc); have HA3 := Lib.hid ((HA2.out.later ((Below.refl _ w2).alloc (Nat.le_refl _) (.cells #[.int .i64 (N : Int), .slice la xs.length lc] 26))).mono (show w2.heap.size ≤ (w2.alloc (.cells #[.int .i64 (N : Int), .slice la xs.length lc] 26)).heap.size by simp)); have HX3 := Lib.hid (BoxA.mk HG3.out HA3.out); clear hrow hb2)
      | (go_at_call 12; refine (P.cycle_some hqN HC.out HN.out _ _ HX3.out.arcs).mono ?_; rintro e w4 ⟨hb4, gw, cw, k, i, W, r, x, rfl, hrow, hj, hW, hcm, hxk, hx1, hiN, hrN⟩; have HX4 := Lib.hid (HX3.out.later hb4); have HROW := Lib.hid hrow; have HJ := Lib.hid hj; have HCM := Lib.hid hcm; have HXK := Lib.hid hxk; have HX1 := Lib.hid hx1; have y0 := HX4.out.box.c0; have y1 := HX4.out.box.c1; clear hb4 hrow hj hcm hxk hx1)
      | (go_at_call 10; refine (fars_neg hqN HC.out HN.out _ _ HX4.out.arcs).mono ?_; rintro e w6 ⟨hb6, rfl⟩; have HX6 := Lib.hid (HX4.out.later hb6); have HR6 := Lib.hid (owns_below HROW.out hb6); have z0 := HX6.out.box.c0; have z1 := HX6.out.box.c1; clear hb6))
    have hk : k < xs.length := (List.getElem?_eq_some_iff.1 HXK.out).1
    obtain ⟨b, off, _, rfl, _⟩ := HX6.out.arcs.at_ hk
    obtain ⟨rn, hrn⟩ : ∃ rn, r.length + 1 = rn := ⟨_, rfl⟩
    have HRN := Lib.hid hrn
    have hrn0 : 0 < rn := by omega
    have hrn1 : ((rn : Int) == 0) = false := by simp; omega
    have hrn2 : (0 : Int) < (rn : Int) := by omega
    rw [hrn] at HR6 hrN
    simp only [hrn]
    clear hrn y0 y1 z0 z1
    have hk0 : ¬ (k : Int) < 0 := by omega
    have hk1 : (0 : Int) ≤ (k : Int) := by omega
    have hk2 : (k : Int) < (xs.length : Int) := by omega
    have z1 := HX6.out.box.c1
    have z3 := nums_cell HR6.out (k := 0) (x := (k : Int)) rfl
    go_quiet (fail)
    have HX7 := Lib.hid (HX6.out.later (below_drewN (Below.refl w6.heap.size w6) nq))
    have HR7 := Lib.hid (owns_below HR6.out (below_drewN (Below.refl w6.heap.size w6) nq))
    clear z1 z3
    generalize w6.drewN nq = w7 at HX7 HR7 ⊢
    have z1 := HX7.out.box.c1
    have z3 := nums_cell HR7.out (k := 0) (x := (k : Int)) rfl
    obtain ⟨e0, _, _⟩ := HX7.out.arcs.get HXK.out
    rw [HX1.out] at e0
    go_wp2_with fail
    go_quiet (fail)
    have HX8 := Lib.hid (HX7.out.later (below_drewN (Below.refl w7.heap.size w7) nq))
    have HR8 := Lib.hid (owns_below HR7.out (below_drewN (Below.refl w7.heap.size w7) nq))
    clear z1 z3 e0
    generalize w7.drewN nq = w8 at HX8 HR8 ⊢
    have z0 := HX8.out.box.c0
    have z1 := HX8.out.box.c1
    have HI8 : Hid (IsInts w8.heap.size w8 (some ⟨gw, 0, none⟩) rn ((k : Int) :: r)) := Lib.hid (owns_ints HR8.out).2
    have HGD : Hid (∀ c : Nat → Bool, (∀ j, j < N → (c j = true ↔ Comes xs q j)) → c i = true) := Lib.hid (fun c h => (h i hiN).2 HCM.out)
    have hi1 : (0 : Int) ≤ (i : Int) := by omega
    have hi2 : (i : Int) < (N : Int) := by omega
    go_wp2_with (first
      | (go_at_call 13; refine (joined_any (N : Int) lc _ _ _ _ _ _ _ HX8.out.arcs HI8.out (by omega)).mono ?_; rw [HJ.out, join_tuple rfl]; rintro e w9 ⟨rfl, hb9⟩; have HX9 := Lib.hid (HX8.out.later hb9); have q0 := HX9.out.box.c0; have q1 := HX9.out.box.c1; clear hb9)
      | (go_at_call 14; refine (comes_any N q hqN (by omega) (by have := HLl.out; omega) HOK.out _ lc _ HX9.out.arcs).mono ?_; rintro e w10 ⟨C, c, rfl, hm, _, hiff, hb10⟩; have hci := HGD.out c hiff; have hcc := hm.cell hiN; rw [hci] at hcc; have HX10 := Lib.hid (HX9.out.later hb10); clear hm hiff hb10 hci))
    go_ret
    exact ⟨rfl, HX10.out.box.below⟩
  · have HN := Lib.hid hneg; clear hneg
    go_enter Try.func4, Try.ntmps4
    go_wp2_with (first
      | (go_at_call 7; refine (hawake _).mono ?_; rintro e w1 ⟨rfl, hb1⟩; have HB1 := Lib.hid hb1; clear hb1)
      | (go_at_call 8; refine (HM.out _ ((HL.out.later HB1.out).mono HB1.out.size)).mono ?_; rintro e w2 ⟨lv, rfl, hrow, hb2⟩; obtain ⟨la, lc, hv⟩ := owns_shape hrow; subst hv; have HA2 := Lib.hid (owns_arcs hrow).2; have HB2 := Lib.hid (HB1.out.trans (hb2.mono HB1.out.size)); have HG3 := Lib.hid (Box.make HB2.out (N : Int) la xs.length lc); have HA3 := Lib.hid ((HA2.out.later ((Below.refl _ w2).alloc (Nat.le_refl _) (.cells #[.int .i64 (N : Int), .slice la xs.length lc] 26))).mono (show w2.heap.size ≤ (w2.alloc (.cells #[.int .i64 (N : Int), .slice la xs.length lc] 26)).heap.size by simp)); have HX3 := Lib.hid (BoxA.mk HG3.out HA3.out); clear hrow hb2)
      | (go_at_call 12; refine (P.cycle_none hqN HC.out HN.out _ _ HX3.out.arcs).mono ?_; rintro e w4 ⟨hb4, a1, c1, rfl⟩; have HX4 := Lib.hid (HX3.out.later hb4); have y0 := HX4.out.box.c0; have y1 := HX4.out.box.c1; clear hb4)
      | (go_at_call 10; refine (fars_dist hqN HC.out HN.out _ _ HX4.out.arcs).mono ?_; rintro e w6 ⟨hb6, gr, cr, far2, rfl, hlr, hd⟩; have HX6 := Lib.hid (HX4.out.later hb6); clear hb6 hlr hd))
    go_ret
    exact ⟨rfl, HX6.out.box.below⟩
end Go.Proofs.Ytmmhdjibigopfaa
