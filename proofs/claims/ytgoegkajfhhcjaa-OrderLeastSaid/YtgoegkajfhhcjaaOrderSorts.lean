/- The walk of the law on Sort. -/
import Derived.Test.YtgoegkajfhhcjaaSorted
import Derived.Test.YtgoegkajfhhcjaaLawG
import Derived.Test.YtgoegkajfhhcjaaEqInts
namespace Go.Proofs.Ytgoegkajfhhcjaa
open Go.RowKit

variable {w : World} {a : Option Addr} {len cap N : Nat} {l : List Ar} {o : List Nat}
theorem OrderSpec.sort_whole (P : OrderSpec) (hc : checkV (N : Int) l = 0) (ho : Whole l N o) (cap : Nat) (w : World) (hl : IsArcs w.heap.size w a len l) :
    Calls Try.prog 10 #[.agg #[.int .i64 (N : Int), .slice a len cap]] w fun e w' => Below w.heap.size w w' ∧ ∃ va vc, e = .returned (.tuple #[.slice va (nodesV o).length vc, .bool true]) ∧ w'.ownsRow w.heap.size 3 1 (.slice va (nodesV o).length vc) (nodesV o).length (numsV (nodesV o)) :=
  (P.sort_ok N len cap l a w hc hl).mono fun e w' ⟨hb, h⟩ => ⟨hb, by
    rcases h with ⟨v, out, h1, h2, h3⟩ | ⟨_, _, out, _, h2⟩
    · have := ho.unique h2
      subst this
      obtain ⟨va, vc, hv⟩ := owns_shape h3
      subst hv
      exact ⟨va, vc, h1, h3⟩
    · exact (h2.not_whole ho).elim⟩
theorem OrderSpec.sort_stuck (P : OrderSpec) (hc : checkV (N : Int) l = 0) (ho : Stuck l N o) (cap : Nat) (w : World) (hl : IsArcs w.heap.size w a len l) :
    Calls Try.prog 10 #[.agg #[.int .i64 (N : Int), .slice a len cap]] w fun e w' => Below w.heap.size w w' ∧ ∃ a1 c1, e = .returned (.tuple #[.slice a1 0 c1, .bool false]) :=
  (P.sort_ok N len cap l a w hc hl).mono fun e w' ⟨hb, h⟩ => ⟨hb, by
    rcases h with ⟨v, out, _, h2, _⟩ | ⟨a1, c1, out, h1, h2⟩
    · exact (ho.not_whole h2).elim
    · exact ⟨a1, c1, h1⟩⟩
theorem sorted_whole (hN1 : 1 ≤ N) (hc : checkV (N : Int) l = 0) (ho : Whole l N o) (cap : Nat) (w : World) (hl : IsArcs w.heap.size w a len l) :
    Calls Try.prog 11 #[.agg #[.int .i64 (N : Int), .slice a len cap]] w fun e w' => Below w.heap.size w w' ∧ ∃ va vc, e = .returned (.tuple #[.slice va (nodesV o).length vc, .bool true]) ∧ w'.ownsRow w.heap.size 3 1 (.slice va (nodesV o).length vc) (nodesV o).length (numsV (nodesV o)) := by
  obtain ⟨⟨_, h1, h2⟩, hok⟩ := checkV_zero.1 hc
  refine (sorted_any N hN1 (by omega) (by have := hl.1; omega) hok a cap w hl).mono fun e w' ⟨hb, h⟩ => ⟨hb, ?_⟩
  rcases h with ⟨v, out, h1, h2, h3⟩ | ⟨out, _, h2⟩
  · have := ho.unique h2
    subst this
    obtain ⟨va, vc, hv⟩ := owns_shape h3
    subst hv
    exact ⟨va, vc, h1, h3⟩
  · exact (h2.not_whole ho).elim
theorem sorted_stuck (hN1 : 1 ≤ N) (hc : checkV (N : Int) l = 0) (ho : Stuck l N o) (cap : Nat) (w : World) (hl : IsArcs w.heap.size w a len l) :
    Calls Try.prog 11 #[.agg #[.int .i64 (N : Int), .slice a len cap]] w fun e w' => Below w.heap.size w w' ∧ e = .returned (.tuple #[.slice none 0 0, .bool false]) := by
  obtain ⟨⟨_, h1, h2⟩, hok⟩ := checkV_zero.1 hc
  refine (sorted_any N hN1 (by omega) (by have := hl.1; omega) hok a cap w hl).mono fun e w' ⟨hb, h⟩ => ⟨hb, ?_⟩
  rcases h with ⟨v, out, _, h2, _⟩ | ⟨out, h1, _⟩
  · exact (ho.not_whole h2).elim
  · exact h1
/-- Two rows without elements. -/
theorem eqEmpty (a b : Option Addr) (ca cb : Nat) (w : World) :
    Calls Try.prog 12 #[.slice a 0 ca, .slice b 0 cb] w fun e w' => e = .returned (.bool true) ∧ Below w.heap.size w w' := by
  go_enter Try.func12, Try.ntmps12
  go_wp2_with fail
  refine wp_loop_rounds 1 ?_
  rw [rounds_succ]
  go_wp2_with fail
  go_ret
  exact ⟨rfl, Below.refl _ _⟩

set_option maxHeartbeats 2000000 in
set_option maxRecDepth 100000 in
theorem orderSorts_walk (P : OrderSpec) (hawake : ∀ w, Calls Try.prog 8 #[] w fun e w' => e = .returned (.bool true) ∧ Below w.heap.size w w')
    (n : Int) (hn : (Lit.int .u8 n).wf = true) (a : Option Addr) (cap : Nat) (w : World) (hbig : len ≤ maxLen) (hl : IsLinks w.heap.size w a len l) :
    Calls Try.prog 3 #[.int .u8 n, .slice a len cap] w fun e w' => e = .returned (.bool true) ∧ Below w.heap.size w w' := by
  unfold maxLen at hbig
  obtain ⟨⟨hn1, hn2⟩, _, N, q, hN, hN1, hN8, _, _⟩ := law_starts hn hn
  clear hn
  have HM := Lib.hid (fun W (h : IsLinks W.heap.size W a len l) => maker_any n hn1 (by omega) a cap W hbig h)
  have HC := Lib.hid (arcs_check7 hN1 hN8 hl.small7 len)
  have HL := Lib.hid hl; clear hl
  rw [hN] at HM
  clear hN hn1 hn2
  generalize arcsTo (N : Int) l len = xs at HM HC
  have hNz : ¬ (N : Int) = 0 := by omega
  have hNb : ((N : Int) == 0) = false := by simpa using hNz
  obtain ⟨o, ho⟩ := whole_or_stuck xs N
  rcases ho with ho | ho
  · have HO := Lib.hid ho
    have hol : (nodesV o).length ≤ 1000000 := by rw [nodesV_length, ho.2]; omega
    clear ho
    go_enter Try.func3, Try.ntmps3
    go_wp2_with (first
      | (go_at_call 8; refine (hawake _).mono ?_; rintro e w1 ⟨rfl, hb1⟩; have HB1 := Lib.hid hb1; clear hb1)
      | (go_at_call 9; refine (HM.out _ ((HL.out.later HB1.out).mono HB1.out.size)).mono ?_; rintro e w2 ⟨lv, rfl, hrow, hb2⟩; obtain ⟨la, lc, hv⟩ := owns_shape hrow; subst hv; have HA2 := Lib.hid (owns_arcs hrow).2; have HB2 := Lib.hid (HB1.out.trans (hb2.mono HB1.out.size)); have HG3 := Lib.hid (Box.make HB2.out (N : Int) la xs.length lc); have HA3 := Lib.hid ((HA2.out.later ((Below.refl _ w2).alloc (Nat.le_refl _) (.cells #[.int .i64 (N : Int), .slice la xs.length lc] 26))).mono (show w2.heap.size ≤ (w2.alloc (.cells #[.int .i64 (N : Int), .slice la xs.length lc] 26)).heap.size by simp)); clear hrow hb2)
      | (go_at_call 10; refine (P.sort_whole HC.out HO.out _ _ HA3.out).mono ?_; rintro e w4 ⟨hb4, v4, c4, rfl, hr4⟩; have HG4 := Lib.hid (HG3.out.later hb4); have HA4 := Lib.hid ((HA3.out.later hb4).mono hb4.size); have HR4 := Lib.hid hr4; have y0 := HG4.out.c0; have y1 := HG4.out.c1; clear hb4 hr4)
      | (go_at_call 11; refine (sorted_whole hN1 HC.out HO.out _ _ HA4.out).mono ?_; rintro e w5 ⟨hb5, v5, c5, rfl, hr5⟩; have HG5 := Lib.hid (HG4.out.later hb5); have HR5 := Lib.hid hr5; have HR45 := Lib.hid (owns_below HR4.out hb5); clear hb5 hr5)
      | (go_at_call 12; refine (eqIntsAt rfl HR45.out HR5.out hol).mono ?_; rintro e w6 ⟨rfl, hb6⟩; have HG6 := Lib.hid (HG5.out.later hb6); clear hb6))
    go_ret
    exact ⟨rfl, HG6.out.below⟩
  · have HO := Lib.hid ho
    clear ho
    go_enter Try.func3, Try.ntmps3
    go_wp2_with (first
      | (go_at_call 8; refine (hawake _).mono ?_; rintro e w1 ⟨rfl, hb1⟩; have HB1 := Lib.hid hb1; clear hb1)
      | (go_at_call 9; refine (HM.out _ ((HL.out.later HB1.out).mono HB1.out.size)).mono ?_; rintro e w2 ⟨lv, rfl, hrow, hb2⟩; obtain ⟨la, lc, hv⟩ := owns_shape hrow; subst hv; have HA2 := Lib.hid (owns_arcs hrow).2; have HB2 := Lib.hid (HB1.out.trans (hb2.mono HB1.out.size)); have HG3 := Lib.hid (Box.make HB2.out (N : Int) la xs.length lc); have HA3 := Lib.hid ((HA2.out.later ((Below.refl _ w2).alloc (Nat.le_refl _) (.cells #[.int .i64 (N : Int), .slice la xs.length lc] 26))).mono (show w2.heap.size ≤ (w2.alloc (.cells #[.int .i64 (N : Int), .slice la xs.length lc] 26)).heap.size by simp)); clear hrow hb2)
      | (go_at_call 10; refine (P.sort_stuck HC.out HO.out _ _ HA3.out).mono ?_; rintro e w4 ⟨hb4, a4, c4, rfl⟩; have HG4 := Lib.hid (HG3.out.later hb4); have HA4 := Lib.hid ((HA3.out.later hb4).mono hb4.size); have y0 := HG4.out.c0; have y1 := HG4.out.c1; clear hb4)
      | (go_at_call 11; refine (sorted_stuck hN1 HC.out HO.out _ _ HA4.out).mono ?_; rintro e w5 ⟨hb5, rfl⟩; have HG5 := Lib.hid (HG4.out.later hb5); clear hb5)
      | (go_at_call 12; refine (eqEmpty _ _ _ _ _).mono ?_; rintro e w6 ⟨rfl, hb6⟩; have HG6 := Lib.hid (HG5.out.later hb6); clear hb6))
    go_ret
    exact ⟨rfl, HG6.out.below⟩
end Go.Proofs.Ytgoegkajfhhcjaa
