/- The walk of the law on From. -/
import Derived.Test.YtmmhdjibigopfaaPathSpec
import Derived.Test.YtmmhdjibigopfaaFarsDo
import Derived.Test.YtmmhdjibigopfaaLGraph
namespace Go.Proofs.Ytmmhdjibigopfaa
open Go.RowKit

variable {len cap N s g g1 : Nat} {l : List Ar} {w wr w2 : World} {a : Option Addr} {B : Nat} {vf vb : Value}
theorem PathSpec.from_neg (P : PathSpec) (hs : s < N) (hc : checkV (N : Int) l = 0) (hn : Neg l s) (cap : Nat) (w : World) (hl : IsArcs w.heap.size w a len l) :
    Calls Try.prog 9 #[.agg #[.int .i64 (N : Int), .slice a len cap], .int .i64 (s : Int)] w fun e w' => Below w.heap.size w w' ∧
      ∃ a1 c1 a2 c2, e = .returned (.tuple #[.agg #[.slice a1 0 c1, .slice a2 0 c2], .int .i64 7]) :=
  (P.from_ok N s len cap l a w hs hc hl).mono fun e w' ⟨hb, h⟩ => ⟨hb, by
    rcases h with ⟨a1, c1, a2, c2, h1, _⟩ | ⟨vf, vb, far, by_, _, _, _, ht⟩
    · exact ⟨a1, c1, a2, c2, h1⟩
    · exact absurd hn ht.dist.not_neg⟩
theorem PathSpec.from_tree (P : PathSpec) (hs : s < N) (hc : checkV (N : Int) l = 0) (hn : ¬ Neg l s) (cap : Nat) (w : World) (hl : IsArcs w.heap.size w a len l) :
    Calls Try.prog 9 #[.agg #[.int .i64 (N : Int), .slice a len cap], .int .i64 (s : Int)] w fun e w' => Below w.heap.size w w' ∧
      ∃ gf cf gb cb far by_, e = .returned (.tuple #[.agg #[.slice (some ⟨gf, 0, none⟩) N cf, .slice (some ⟨gb, 0, none⟩) N cb], .int .i64 0]) ∧
        LongRow w' 0 (.slice (some ⟨gf, 0, none⟩) N cf) N (valI far) ∧ IntRow w' 0 (.slice (some ⟨gb, 0, none⟩) N cb) N by_ ∧ TreeOf l s far by_ :=
  (P.from_ok N s len cap l a w hs hc hl).mono fun e w' ⟨hb, h⟩ => ⟨hb, by
    rcases h with ⟨_, _, _, _, _, h2⟩ | ⟨vf, vb, far, by_, h1, h2, h3, ht⟩
    · exact absurd h2 hn
    · obtain ⟨gf, cf, e1, _⟩ := h2.some_ (by omega)
      obtain ⟨gb, cb, e2, _⟩ := h3.some_ (by omega)
      subst e1 e2
      exact ⟨gf, cf, gb, cb, far, by_, h1, h2.rebase (Nat.zero_le _), owns_rebase h3 (Nat.zero_le _), ht⟩⟩
theorem fars_neg (hs : s < N) (hc : checkV (N : Int) l = 0) (hn : Neg l s) (cap : Nat) (w : World) (hl : IsArcs w.heap.size w a len l) :
    Calls Try.prog 10 #[.agg #[.int .i64 (N : Int), .slice a len cap], .int .i64 (s : Int)] w fun e w' => Below w.heap.size w w' ∧ e = .returned (.tuple #[.slice none 0 0, .bool false]) := by
  obtain ⟨⟨_, h1, h2⟩, hok⟩ := checkV_zero.1 hc
  refine (fars_any N s hs (by omega) (by have := hl.1; omega) hok a cap w hl).mono fun e w' ⟨hb, h⟩ => ⟨hb, ?_⟩
  rcases h with ⟨v, far, _, _, hd⟩ | ⟨h3, _⟩
  · exact absurd hn hd.not_neg
  · exact h3
theorem fars_dist (hs : s < N) (hc : checkV (N : Int) l = 0) (hn : ¬ Neg l s) (cap : Nat) (w : World) (hl : IsArcs w.heap.size w a len l) :
    Calls Try.prog 10 #[.agg #[.int .i64 (N : Int), .slice a len cap], .int .i64 (s : Int)] w fun e w' => Below w.heap.size w w' ∧
      ∃ gr cr far, e = .returned (.tuple #[.slice (some ⟨gr, 0, none⟩) N cr, .bool true]) ∧ LongRow w' 0 (.slice (some ⟨gr, 0, none⟩) N cr) N (valI far) ∧ Dist l s far := by
  obtain ⟨⟨_, h1, h2⟩, hok⟩ := checkV_zero.1 hc
  refine (fars_any N s hs (by omega) (by have := hl.1; omega) hok a cap w hl).mono fun e w' ⟨hb, h⟩ => ⟨hb, ?_⟩
  rcases h with ⟨v, far, h3, h4, hd⟩ | ⟨_, h3⟩
  · obtain ⟨gr, cr, e1, _⟩ := h4.some_ (by omega)
    subst e1
    exact ⟨gr, cr, far, h3, h4.rebase (Nat.zero_le _), hd⟩
  · exact absurd h3 hn
/-- The graph's box, the tree's. -/
structure FromW (w wr : World) (g g1 N : Nat) (a : Option Addr) (len cap : Nat) (l : List Ar) (vf vb : Value) : Prop where
  box : Box w wr g (N : Int) a len cap
  arcs : IsArcs wr.heap.size wr a len l
  tb : wr.heap[g1]? = some (.cells #[vf, vb] 31 (0, 0))
theorem FromW.later (h : FromW w wr g g1 N a len cap l vf vb) (hb : Below wr.heap.size wr w2) : FromW w w2 g g1 N a len cap l vf vb :=
  ⟨h.box.later hb, (h.arcs.later hb).mono hb.size, (hb.block g1 (Array.getElem?_eq_some_iff.1 h.tb).1).trans h.tb⟩
theorem FromW.make (h : Box w wr g (N : Int) a len cap) (ha : IsArcs wr.heap.size wr a len l) (vf vb : Value) : FromW w (wr.alloc (.cells #[vf, vb] 31)) g wr.heap.size N a len cap l vf vb :=
  ⟨h.alloc _, (ha.later ((Below.refl _ wr).alloc (Nat.le_refl _) _)).mono (by simp), heap_alloc_new _ _⟩
theorem FromW.t0 (h : FromW w wr g g1 N a len cap l vf vb) : wr.cell? ⟨g1, 0, none⟩ = some vf := by simp [World.cell?, h.tb]
theorem FromW.t1 (h : FromW w wr g g1 N a len cap l vf vb) : wr.cell? ⟨g1, 1, none⟩ = some vb := by simp [World.cell?, h.tb]
theorem IsLinks.small7 (h : IsLinks B w a len l) : ∀ x ∈ l, -32768 ≤ x.2.2 ∧ x.2.2 ≤ 32767 := by
  intro x hx
  rcases h.2 with h0 | ⟨b, off, _, _, hr⟩
  · have : l = [] := List.eq_nil_of_length_eq_zero (by rw [h.1]; exact h0)
    subst this
    cases hx
  · obtain ⟨k, hk⟩ := List.getElem?_of_mem hx
    have := hr k x hk
    omega
theorem arcs_check7 (hN : 1 ≤ N) (hN8 : N ≤ 8) (hl : ∀ x ∈ l, -32768 ≤ x.2.2 ∧ x.2.2 ≤ 32767) (k : Nat) : checkV (N : Int) (arcsTo (N : Int) l k) = 0 := by
  refine checkV_zero.2 ⟨⟨by omega, by omega, Nat.le_trans (arcsTo_len _ _ _) (by omega)⟩, fun y hy => ?_⟩
  obtain ⟨x, hx, rfl⟩ := arcsTo_mem hy
  have := hl x hx
  have h1 := Int.emod_nonneg x.1 (show (N : Int) ≠ 0 by omega)
  have h2 := Int.emod_lt_of_pos x.1 (show (0 : Int) < (N : Int) by omega)
  have h3 := Int.emod_nonneg x.2.1 (show (N : Int) ≠ 0 by omega)
  have h4 := Int.emod_lt_of_pos x.2.1 (show (0 : Int) < (N : Int) by omega)
  exact okA_true.2 ⟨⟨h1, h2⟩, ⟨h3, h4⟩, by simp only [arcOf]; omega, by simp only [arcOf]; omega⟩
/-- Which graph the law makes, and where it begins. -/
theorem law_starts {n f : Int} (hn : (Lit.int .u8 n).wf = true) (hf : (Lit.int .u8 f).wf = true) : (0 ≤ n ∧ n ≤ 255) ∧ (0 ≤ f ∧ f ≤ 255) ∧ ∃ N q : Nat, 1 + n % 8 = (N : Int) ∧ 1 ≤ N ∧ N ≤ 8 ∧ f % (N : Int) = (q : Int) ∧ q < N := by
  simp [Lit.wf, IntKind.min, IntKind.max, IntKind.signed, IntKind.bits] at hn hf
  refine ⟨hn, hf, (1 + n % 8).toNat, (f % (((1 + n % 8).toNat : Nat) : Int)).toNat, by omega, by omega, by omega, ?_, ?_⟩
  · have := Int.emod_nonneg f (show ((((1 + n % 8).toNat : Nat) : Int)) ≠ 0 by omega)
    omega
  · have h1 := Int.emod_nonneg f (show ((((1 + n % 8).toNat : Nat) : Int)) ≠ 0 by omega)
    have h2 := Int.emod_lt_of_pos f (show (0 : Int) < (((1 + n % 8).toNat : Nat) : Int) by omega)
    omega

theorem way_of (P : PathSpec) {cf cb gf gb : Nat} {far : Nat → Option Int} {by_ : Nat → Int} (hs : s < N) (hc : checkV (N : Int) l = 0) (ht : TreeOf l s far by_) :
    ∀ (i : Nat) (W : World), i < N → IsArcs W.heap.size W a len l → LongRow W 0 (.slice (some ⟨gf, 0, none⟩) N cf) N (valI far) → IntRow W 0 (.slice (some ⟨gb, 0, none⟩) N cb) N by_ →
      Calls Try.prog 19 #[.agg #[.slice (some ⟨gf, 0, none⟩) N cf, .slice (some ⟨gb, 0, none⟩) N cb], .agg #[.int .i64 (N : Int), .slice a len cap], .int .i64 (i : Int)] W fun e w' =>
        ∃ v ws, e = .returned v ∧ w'.ownsRow W.heap.size 3 1 v ws.length (numsV ws) ∧ WayTo l s far by_ i ws ∧ ws.length ≤ 1000000 ∧ Below W.heap.size W w' := fun i W hi hA hF hB => by
  have hok := (checkV_zero.1 hc).2
  refine (P.way_ok N s len cap i l a W far by_ gf cf gb cb hs hi hc ht.told.root (by rw [ht.told.zero]; simp) ht.told.off ht.told.chain (ht.past hok hs) hA hF hB).mono ?_
  rintro e w' ⟨v, ws, h1, h2, h3, h4, h5⟩
  exact ⟨v, ws, h1, h2, ht.way hok h3 h4, by omega, h5⟩

set_option maxHeartbeats 4000000 in
set_option maxRecDepth 100000 in
theorem pathFroms_walk (P : PathSpec) (hawake : ∀ w, Calls Try.prog 7 #[] w fun e w' => e = .returned (.bool true) ∧ Below w.heap.size w w')
    (n : Int) (hn : (Lit.int .u8 n).wf = true) (a : Option Addr) (cap : Nat) (f : Int) (hf : (Lit.int .u8 f).wf = true) (w : World) (hbig : len ≤ maxLen) (hl : IsLinks w.heap.size w a len l) :
    Calls Try.prog 3 #[.int .u8 n, .slice a len cap, .int .u8 f] w fun e w' => e = .returned (.bool true) ∧ Below w.heap.size w w' := by
  unfold maxLen at hbig
  obtain ⟨⟨hn1, hn2⟩, ⟨hf1, hf2⟩, N, q, hN, hN1, hN8, hq, hqN⟩ := law_starts hn hf
  clear hn hf
  have HM := Lib.hid (fun W (h : IsLinks W.heap.size W a len l) => maker_any n hn1 (by omega) a cap W hbig h)
  have HC := Lib.hid (arcs_check7 hN1 hN8 hl.small7 len)
  have HLl : Hid ((arcsTo (N : Int) l len).length ≤ 24) := Lib.hid (arcsTo_len _ _ _)
  have HL := Lib.hid hl; clear hl
  rw [hN] at HM
  clear hN hn1 hn2
  generalize arcsTo (N : Int) l len = xs at HM HC HLl
  have hNz : ¬ (N : Int) = 0 := by omega
  have hNb : ((N : Int) == 0) = false := by simpa using hNz
  by_cases hneg : Neg xs q
  · have HN := Lib.hid hneg; clear hneg
    go_enter Try.func3, Try.ntmps3
    go_wp2_with (first
      | (go_at_call 7; refine (hawake _).mono ?_; rintro e w1 ⟨rfl, hb1⟩; have HB1 := Lib.hid hb1; clear hb1)
      | (go_at_call 8; refine (HM.out _ ((HL.out.later HB1.out).mono HB1.out.size)).mono ?_; rintro e w2 ⟨lv, rfl, hrow, hb2⟩; obtain ⟨la, lc, hv⟩ := owns_shape hrow; subst hv; have HA2 := Lib.hid (owns_arcs hrow).2; have HB2 := Lib.hid (HB1.out.trans (hb2.mono HB1.out.size)); have HG3 := Lib.hid (Box.make HB2.out (N : Int) la xs.length lc); have HA3 := Lib.hid ((HA2.out.later ((Below.refl _ w2).alloc (Nat.le_refl _) (.cells #[.int .i64 (N : Int), .slice la xs.length lc] 26))).mono (show w2.heap.size ≤ (w2.alloc (.cells #[.int .i64 (N : Int), .slice la xs.length lc] 26)).heap.size by simp)); clear hrow hb2)
      | (go_at_call 9; refine (P.from_neg hqN HC.out HN.out _ _ HA3.out).mono ?_; rintro e w4 ⟨hb4, a1, c1, a2, c2, rfl⟩; have HW5 := Lib.hid (FromW.make (HG3.out.later hb4) ((HA3.out.later hb4).mono hb4.size) (.slice a1 0 c1) (.slice a2 0 c2)); have y0 := HW5.out.box.c0; have y1 := HW5.out.box.c1; clear hb4)
      | (go_at_call 10; refine (fars_neg hqN HC.out HN.out _ _ HW5.out.arcs).mono ?_; rintro e w6 ⟨hb6, rfl⟩; have HW6 := Lib.hid (HW5.out.later hb6); have z0 := HW6.out.t0; have z1 := HW6.out.t1; clear hb6))
    go_ret
    exact ⟨rfl, HW6.out.box.below⟩
  · have HN := Lib.hid hneg; clear hneg
    have HOK := Lib.hid (checkV_zero.1 HC.out).2
    go_enter Try.func3, Try.ntmps3
    go_wp2_with (first
      | (go_at_call 7; refine (hawake _).mono ?_; rintro e w1 ⟨rfl, hb1⟩; have HB1 := Lib.hid hb1; clear hb1)
      | (go_at_call 8; refine (HM.out _ ((HL.out.later HB1.out).mono HB1.out.size)).mono ?_; rintro e w2 ⟨lv, rfl, hrow, hb2⟩; obtain ⟨la, lc, hv⟩ := owns_shape hrow; subst hv; have HA2 := Lib.hid (owns_arcs hrow).2; have HB2 := Lib.hid (HB1.out.trans (hb2.mono HB1.out.size)); have HG3 := Lib.hid (Box.make HB2.out (N : Int) la xs.length lc); have HA3 := Lib.hid ((HA2.out.later ((Below.refl _ w2).alloc (Nat.le_refl _) (.cells #[.int .i64 (N : Int), .slice la xs.length lc] 26))).mono (show w2.heap.size ≤ (w2.alloc (.cells #[.int .i64 (N : Int), .slice la xs.length lc] 26)).heap.size by simp)); clear hrow hb2)
      | (go_at_call 9; refine (P.from_tree hqN HC.out HN.out _ _ HA3.out).mono ?_; rintro e w4 ⟨hb4, gf, cf, gb, cb, far, by_, rfl, hlf, hib, ht⟩; have HT := Lib.hid ht; have HW5 := Lib.hid (FromW.make (HG3.out.later hb4) ((HA3.out.later hb4).mono hb4.size) (.slice (some ⟨gf, 0, none⟩) N cf) (.slice (some ⟨gb, 0, none⟩) N cb)); have HLF := Lib.hid (hlf.below ((Below.refl _ w4).alloc (Nat.le_refl _) (.cells #[.slice (some ⟨gf, 0, none⟩) N cf, .slice (some ⟨gb, 0, none⟩) N cb] 31))); have HIB := Lib.hid (hib.below ((Below.refl _ w4).alloc (Nat.le_refl _) (.cells #[.slice (some ⟨gf, 0, none⟩) N cf, .slice (some ⟨gb, 0, none⟩) N cb] 31))); have y0 := HW5.out.box.c0; have y1 := HW5.out.box.c1; clear hb4 hlf hib ht)
      | (go_at_call 10; refine (fars_dist hqN HC.out HN.out _ _ HW5.out.arcs).mono ?_; rintro e w6 ⟨hb6, gr, cr, far2, rfl, hlr, hd⟩; have HW6 := Lib.hid (HW5.out.later hb6); have HLR := Lib.hid (hlr.congr (f2 := valI far) (fun i _ => by simp only [valI, hd.unique HT.out.dist i])); have HLF6 := Lib.hid (HLF.out.below hb6); have HIB6 := Lib.hid (HIB.out.below hb6); have z0 := HW6.out.t0; have z1 := HW6.out.t1; have z2 := HW6.out.box.c0; have z3 := HW6.out.box.c1; clear hb6 hlr hd)
      | (go_at_call 11; refine (tight_any N q hqN (by omega) (by have := HLl.out; omega) (HT.out.dist.small HOK.out hqN (by omega)) (HT.out.past HOK.out hqN) (HT.out.tight N) la lc _ HW6.out.arcs (okA_weight HOK.out) gf cf gb cb gr cr HLF6.out HIB6.out HLR.out (way_of P hqN HC.out HT.out)).mono ?_; rintro e w7 ⟨rfl, hb7⟩; have HW7 := Lib.hid (HW6.out.later hb7); clear hb7))
    go_ret
    exact ⟨rfl, HW7.out.box.below⟩
end Go.Proofs.Ytmmhdjibigopfaa
