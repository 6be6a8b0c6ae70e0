/- The walk of the law on Cycle (of package order). -/
import Derived.Test.YtgoegkajfhhcjaaOrderSorts
import Derived.Test.YtgoegkajfhhcjaaJoinG
import Derived.Deep.RegionHeld3
namespace Go.Proofs.Ytgoegkajfhhcjaa
open Go.RowKit

variable {len cap N g : Nat} {l : List Ar} {w wr w2 : World} {a : Option Addr} {o : List Nat}
/-- The graph's box, its arcs. -/
structure BoxA (w wr : World) (g N : Nat) (a : Option Addr) (len cap : Nat) (l : List Ar) : Prop where
  box : Box w wr g (N : Int) a len cap
  arcs : IsArcs wr.heap.size wr a len l
theorem BoxA.later (h : BoxA w wr g N a len cap l) (hb : Below wr.heap.size wr w2) : BoxA w w2 g N a len cap l := ⟨h.box.later hb, (h.arcs.later hb).mono hb.size⟩
theorem OrderSpec.cycle_none (P : OrderSpec) (hc : checkV (N : Int) l = 0) (hn : Whole l N o) (cap : Nat) (w : World) (hl : IsArcs w.heap.size w a len l) :
    Calls Try.prog 13 #[.agg #[.int .i64 (N : Int), .slice a len cap]] w fun e w' => Below w.heap.size w w' ∧ ∃ a1 c1, e = .returned (.slice a1 0 c1) :=
  (P.cycle_ok N len cap l a w hc hl).mono fun e w' ⟨hb, a1, c1, ws, h1, _, h3, _⟩ => ⟨hb, by
    have := h3 o hn
    subst this
    exact ⟨a1, c1, h1⟩⟩
theorem OrderSpec.cycle_some (P : OrderSpec) (hc : checkV (N : Int) l = 0) (hn : Stuck l N o) (cap : Nat) (w : World) (hl : IsArcs w.heap.size w a len l) :
    Calls Try.prog 13 #[.agg #[.int .i64 (N : Int), .slice a len cap]] w fun e w' => Below w.heap.size w w' ∧
      ∃ (gw ow cw k i : Nat) (W : Int) (r : List Int) (x : Ar), e = .returned (.slice (some ⟨gw, ow, none⟩) (r.length + 1) cw) ∧ IsInts w'.heap.size w' (some ⟨gw, ow, none⟩) (r.length + 1) ((k : Int) :: r) ∧
        joinO l ((k : Int) :: r) (i : Int) 0 = some ((i : Int), W) ∧ l[k]? = some x ∧ x.1 = (i : Int) ∧ i < N ∧ r.length + 1 ≤ 1002 :=
  (P.cycle_ok N len cap l a w hc hl).mono fun e w' ⟨hb, a1, c1, ws, h1, h2, _, h3⟩ => ⟨hb, by
    obtain ⟨h4, h5, i, W, h6⟩ := h3 o hn
    obtain ⟨k, x, r, e1, e2, e3⟩ := join_first h6 h5
    subst e1
    obtain ⟨gw, ow, _, e4, _⟩ := h2.at_ (j := 0) (by simp)
    subst e4
    have := okA_true.1 ((checkV_zero.1 hc).2 x (List.mem_of_getElem? e2))
    exact ⟨gw, ow, c1, k, i, W, r, x, by simpa using h1, by simpa using h2, h6, e2, e3, by omega, by simpa using h4⟩⟩
/-- A row's first number. -/
theorem IsInts.head {B g o m : Nat} {k : Int} {r : List Int} (h : IsInts B w (some ⟨g, o, none⟩) m (k :: r)) : w.cell? ⟨g, o, none⟩ = some (.int .i64 k) := by
  rcases h.2 with h0 | ⟨b, off, e, _, hr⟩
  · have := h.1; simp at this; omega
  · simp only [Option.some.injEq, Addr.mk.injEq, and_true] at e
    obtain ⟨e1, e2⟩ := e
    subst e1 e2
    exact hr 0 k rfl
theorem IsInts.on {m : Nat} {ws : List Int} (h : IsInts w.heap.size w a m ws) (hb : Below w.heap.size w w2) : IsInts w2.heap.size w2 a m ws := by
  have h2 := h.later hb
  refine ⟨h2.1, ?_⟩
  rcases h2.2 with h0 | ⟨b, off, e, h3, h4⟩
  · exact .inl h0
  · exact .inr ⟨b, off, e, Nat.lt_of_lt_of_le h3 hb.size, h4⟩

set_option maxHeartbeats 4000000 in
set_option maxRecDepth 100000 in
theorem orderCycles_walk (P : OrderSpec) (hawake : ∀ w, Calls Try.prog 8 #[] w fun e w' => e = .returned (.bool true) ∧ Below w.heap.size w w')
    (n : Int) (hn : (Lit.int .u8 n).wf = true) (a : Option Addr) (cap : Nat) (w : World) (hbig : len ≤ maxLen) (hl : IsLinks w.heap.size w a len l) :
    Calls Try.prog 4 #[.int .u8 n, .slice a len cap] w fun e w' => e = .returned (.bool true) ∧ Below w.heap.size w w' := by
  unfold maxLen at hbig
  obtain ⟨⟨hn1, hn2⟩, _, N, q, hN, hN1, hN8, _, _⟩ := law_starts hn hn
  clear hn
  have HM := Lib.hid (fun W (h : IsLinks W.heap.size W a len l) => maker_any n hn1 (by omega) a cap W hbig h)
  have HC := Lib.hid (arcs_check7 hN1 hN8 hl.small7 len)
  have HLl : Hid ((arcsTo (N : Int) l len).length ≤ 24) := Lib.hid (arcsTo_len _ _ _)
  have HL := Lib.hid hl; clear hl
  rw [hN] at HM
  clear hN hn1 hn2
  generalize arcsTo (N : Int) l len = xs at HM HC HLl
  have hNz : ¬ (N : Int) = 0 := by omega
  have hNb : ((N : Int) == 0) = false := by simpa using hNz
  obtain ⟨o, ho⟩ := whole_or_stuck xs N
  rcases ho.symm with ho2 | ho2
  · have HN := Lib.hid ho2; clear ho ho2
    have HOK := Lib.hid (checkV_zero.1 HC.out).2
    go_enter Try.func4, Try.ntmps4
    go_wp2_with (first
      | (go_at_call 8; refine (hawake _).mono ?_; rintro e w1 ⟨rfl, hb1⟩; have HB1 := Lib.hid hb1; clear hb1)
      | (go_at_call 9; refine (HM.out _ ((HL.out.later HB1.out).mono HB1.out.size)).mono ?_; rintro e w2 ⟨lv, rfl, hrow, hb2⟩; obtain ⟨la, lc, hv⟩ := owns_shape hrow; subst hv; have HA2 := Lib.hid (owns_arcs hrow).2; have HB2 := Lib.hid (HB1.out.trans (hb2.mono HB1.out.size)); have HG3 := Lib.hid (Box.make HB2.out (N : Int) la xs.length lc); have HA3 := Lib.hid ((HA2.out.later ((Below.refl _ w2).alloc (Nat.le_refl _) (.cells #[.int .i64 (N : Int), .slice la xs.length lc] 26))).mono (show w2.heap.size ≤ (w2.alloc (.cells #[.int .i64 (N : Int), .slice la xs.length lc] 26)).heap.size by simp)); have HX3 := Lib.hid (BoxA.mk HG3.out HA3.out); clear hrow hb2)
      | (go_at_call 13; refine (P.cycle_some HC.out HN.out _ _ HX3.out.arcs).mono ?_; rintro e w4 ⟨hb4, gw, ow, cw, k, i, W, r, x, rfl, hrow, hj, hxk, hx1, hiN, hrN⟩; have HX4 := Lib.hid (HX3.out.later hb4); have HROW := Lib.hid hrow; have HJ := Lib.hid hj; have HXK := Lib.hid hxk; have HX1 := Lib.hid hx1; have y0 := HX4.out.box.c0; have y1 := HX4.out.box.c1; clear hb4 hrow hj hxk hx1)
      | (go_at_call 11; refine (sorted_stuck hN1 HC.out HN.out _ _ HX4.out.arcs).mono ?_; rintro e w6 ⟨hb6, rfl⟩; have HX6 := Lib.hid (HX4.out.later hb6); have HR6 := Lib.hid (HROW.out.on hb6); have z0 := HX6.out.box.c0; have z1 := HX6.out.box.c1; clear hb6))
    have hk : k < xs.length := (List.getElem?_eq_some_iff.1 HXK.out).1
    obtain ⟨b, off, _, rfl, _⟩ := HX6.out.arcs.at_ hk
    obtain ⟨rn, hrn⟩ : ∃ rn, r.length + 1 = rn := ⟨_, rfl⟩
    have HRN := Lib.hid hrn
    have hrn0 : 0 < rn := by omega
    have hrn1 : ((rn : Int) == 0) = false := by simp; omega
    have hrn2 : (0 : Int) < (rn : Int) := by omega
    rw [hrn] at HR6 hrN
    simp only [hrn]
    clear hrn y0 y1 z0 z1
    have hk0 : ¬ (k : Int) < 0 := by omega
    have hk1 : (0 : Int) ≤ (k : Int) := by omega
    have hk2 : (k : Int) < (xs.length : Int) := by omega
    have z1 := HX6.out.box.c1
    have z3 := HR6.out.head
    go_quiet (fail)
    have HX7 := Lib.hid (HX6.out.later (below_drewN (Below.refl w6.heap.size w6) nq))
    have HR7 := Lib.hid (HR6.out.on (below_drewN (Below.refl w6.heap.size w6) nq))
    clear z1 z3
    generalize w6.drewN nq = w7 at HX7 HR7 ⊢
    have z1 := HX7.out.box.c1
    have z3 := HR7.out.head
    obtain ⟨e0, _, _⟩ := HX7.out.arcs.get HXK.out
    rw [HX1.out] at e0
    go_wp2_with fail
    go_quiet (fail)
    have HX8 := Lib.hid (HX7.out.later (below_drewN (Below.refl w7.heap.size w7) nq))
    have HR8 := Lib.hid (HR7.out.on (below_drewN (Below.refl w7.heap.size w7) nq))
    clear z1 z3 e0
    generalize w7.drewN nq = w8 at HX8 HR8 ⊢
    have z0 := HX8.out.box.c0
    have z1 := HX8.out.box.c1
    have HI8 : Hid (IsInts w8.heap.size w8 (some ⟨gw, ow, none⟩) rn ((k : Int) :: r)) := HR8
    have hi1 : (0 : Int) ≤ (i : Int) := by omega
    have hi2 : (i : Int) < (N : Int) := by omega
    go_wp2_with (go_at_call 14; refine (joined_any (N : Int) lc _ _ _ _ _ _ _ HX8.out.arcs HI8.out (by omega)).mono ?_; rw [HJ.out, join_tuple rfl]; rintro e w9 ⟨rfl, hb9⟩; have HX9 := Lib.hid (HX8.out.later hb9); clear hb9)
    go_ret
    exact ⟨rfl, HX9.out.box.below⟩
  · have HN := Lib.hid ho2; clear ho ho2
    go_enter Try.func4, Try.ntmps4
    go_wp2_with (first
      | (go_at_call 8; refine (hawake _).mono ?_; rintro e w1 ⟨rfl, hb1⟩; have HB1 := Lib.hid hb1; clear hb1)
      | (go_at_call 9; refine (HM.out _ ((HL.out.later HB1.out).mono HB1.out.size)).mono ?_; rintro e w2 ⟨lv, rfl, hrow, hb2⟩; obtain ⟨la, lc, hv⟩ := owns_shape hrow; subst hv; have HA2 := Lib.hid (owns_arcs hrow).2; have HB2 := Lib.hid (HB1.out.trans (hb2.mono HB1.out.size)); have HG3 := Lib.hid (Box.make HB2.out (N : Int) la xs.length lc); have HA3 := Lib.hid ((HA2.out.later ((Below.refl _ w2).alloc (Nat.le_refl _) (.cells #[.int .i64 (N : Int), .slice la xs.length lc] 26))).mono (show w2.heap.size ≤ (w2.alloc (.cells #[.int .i64 (N : Int), .slice la xs.length lc] 26)).heap.size by simp)); have HX3 := Lib.hid (BoxA.mk HG3.out HA3.out); clear hrow hb2)
      | (go_at_call 13; refine (P.cycle_none HC.out HN.out _ _ HX3.out.arcs).mono ?_; rintro e w4 ⟨hb4, a1, c1, rfl⟩; have HX4 := Lib.hid (HX3.out.later hb4); have y0 := HX4.out.box.c0; have y1 := HX4.out.box.c1; clear hb4)
      | (go_at_call 11; refine (sorted_whole hN1 HC.out HN.out _ _ HX4.out.arcs).mono ?_; rintro e w6 ⟨hb6, v6, c6, rfl, hr6⟩; have HX6 := Lib.hid (HX4.out.later hb6); clear hb6 hr6))
    go_ret
    exact ⟨rfl, HX6.out.box.below⟩
end Go.Proofs.Ytgoegkajfhhcjaa
