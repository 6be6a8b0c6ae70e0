/- The fixed fact of chapter 7: the walk. -/
import Derived.Test.YtmmhdjibigopfaaPAwake
namespace Go.Proofs.Ytmmhdjibigopfaa
open Go.RowKit

variable {w wr w2 w4 : World} {a : Option Addr} {cap g g1 g' cap' gf cf gb cb : Nat} {by_ : Nat → Int} {o : Obj}
theorem infoArcA : (Try.prog.info? 41).map (fun i => (i.zero, i.size, i.bytes)) = some (some (.agg #[.int .i64 0, .int .i64 0, .int .i64 0]), 3, 24) := by kernel_rfl
theorem oneA7 (y : Ar) : ∀ u ∈ encA y, u.oneCell' = true := by
  intro u hu
  simp [encA] at hu
  rcases hu with rfl | rfl | rfl <;> rfl
theorem newsA7_at (w : World) (y : Ar) (T : TypeId) (z : Nat) (hz : w.heap.size = z) : ∀ (j : Nat) (u : Value), (encA y)[j]? = some u → (w.alloc (.cells #[.int .i64 y.1, .int .i64 y.2.1, .int .i64 y.2.2] T)).cell? ((⟨z, 0, none⟩ : Addr).add j) = some u := by
  subst hz
  intro j u hj
  rw [Addr.add_lit]
  match j, hj with
  | 0, hj => simp [encA] at hj; subst hj; simp
  | 1, hj => simp [encA] at hj; subst hj; simp
  | 2, hj => simp [encA] at hj; subst hj; simp

theorem awake_from3 (P : PathSpec) (w : World) (hl : IsArcs w.heap.size w a 3 arcs3) : Calls Try.prog 9 #[.agg #[.int .i64 3, .slice a 3 3], .int .i64 0] w fun e w' => Below w.heap.size w w' ∧
    ∃ gf cf gb cb by_, e = .returned (.tuple #[.agg #[.slice (some ⟨gf, 0, none⟩) 3 cf, .slice (some ⟨gb, 0, none⟩) 3 cb], .int .i64 0]) ∧
      LongRow w' w.heap.size (.slice (some ⟨gf, 0, none⟩) 3 cf) 3 (valI far3) ∧ IntRow w' w.heap.size (.slice (some ⟨gb, 0, none⟩) 3 cb) 3 by_ ∧ TreeOf arcs3 0 far3 by_ :=
  (P.from_ok 3 0 3 3 arcs3 a w (by omega) check3 hl).mono fun e w' ⟨hb, h⟩ => ⟨hb, by
    rcases h with ⟨_, _, _, _, _, h2⟩ | ⟨vf, vb, far, by_, h1, h2, h3, ht⟩
    · exact absurd h2 dist3.not_neg
    · obtain ⟨gf, cf, e1, _⟩ := h2.some_ (by omega)
      obtain ⟨gb, cb, e2, _⟩ := h3.some_ (by omega)
      subst e1 e2
      obtain ⟨e3, _⟩ := tree3 ht
      subst e3
      exact ⟨gf, cf, gb, cb, by_, h1, h2, h3, ht⟩⟩
theorem awake_from4 (P : PathSpec) (cap : Nat) (w : World) (hl : IsArcs w.heap.size w a 4 arcs4) : Calls Try.prog 9 #[.agg #[.int .i64 3, .slice a 4 cap], .int .i64 0] w fun e w' => Below w.heap.size w w' ∧
    ∃ a1 c1 a2 c2, e = .returned (.tuple #[.agg #[.slice a1 0 c1, .slice a2 0 c2], .int .i64 7]) :=
  P.from_neg (N := 3) (s := 0) (by omega) check4 neg4 cap w hl
theorem awake_cycle (P : PathSpec) (cap : Nat) (w : World) (hl : IsArcs w.heap.size w a 4 arcs4) : Calls Try.prog 12 #[.agg #[.int .i64 3, .slice a 4 cap], .int .i64 0] w fun e w' => Below w.heap.size w w' ∧ ∃ a1 c1, e = .returned (.slice a1 3 c1) :=
  (P.cycle_some (N := 3) (s := 0) (by omega) check4 neg4 cap w hl).mono fun e w' ⟨hb, gw, cw, k, i, W, r, x, h1, _, h3, h4, _, _, _, _, h9⟩ => ⟨hb, some ⟨gw, 0, none⟩, cw, by rw [h1, cycle4 h3 h4 h9]⟩
theorem awake_way (P : PathSpec) (cap : Nat) (w : World) (hl : IsArcs w.heap.size w a 4 arcs4) (ht : TreeOf arcs3 0 far3 by_) (hf : LongRow w 0 (.slice (some ⟨gf, 0, none⟩) 3 cf) 3 (valI far3)) (hb : IntRow w 0 (.slice (some ⟨gb, 0, none⟩) 3 cb) 3 by_) :
    Calls Try.prog 19 #[.agg #[.slice (some ⟨gf, 0, none⟩) 3 cf, .slice (some ⟨gb, 0, none⟩) 3 cb], .agg #[.int .i64 3, .slice a 4 cap], .int .i64 2] w fun e w' =>
      ∃ v c, e = .returned (.slice v 2 c) ∧ w'.ownsRow w.heap.size 3 1 (.slice v 2 c) [(0 : Int), 1].length (numsV [0, 1]) ∧ Below w.heap.size w w' := by
  refine (P.way_ok 3 0 4 cap 2 arcs4 a w far3 by_ gf cf gb cb (by omega) (by omega) check4 ht.told.root (by simp [far3]) ht.told.off (fun i d hd => ?_) (ht.past (N := 3) (checkV_zero.1 check3).2 (by omega)) hl hf hb).mono ?_
  · obtain ⟨ws, e, h⟩ := ht.told.chain i d hd
    exact ⟨ws, e, way34 h⟩
  · rintro e w' ⟨v, ws, h1, h2, h3, _, h5⟩
    obtain ⟨_, _, _, hw⟩ := tree3 ht
    obtain ⟨e1, hw2⟩ := h3.2 1 rfl
    have := (hw.only hw2).1
    subst this
    obtain ⟨va, vc, hv⟩ := owns_shape h2
    subst hv
    exact ⟨va, vc, h1, h2, h5⟩
/-- Behind the append: the second graph, the first one's tree. -/
structure AwW (w wr : World) (g g1 g' cap' gf cf gb cb : Nat) (by_ : Nat → Int) : Prop where
  box : Box w wr g 3 (some ⟨g', 0, none⟩) 4 cap'
  arcs : IsArcs wr.heap.size wr (some ⟨g', 0, none⟩) 4 arcs4
  tb : wr.heap[g1]? = some (.cells #[.slice (some ⟨gf, 0, none⟩) 3 cf, .slice (some ⟨gb, 0, none⟩) 3 cb] 31 (0, 0))
  far : LongRow wr 0 (.slice (some ⟨gf, 0, none⟩) 3 cf) 3 (valI far3)
  by_ : IntRow wr 0 (.slice (some ⟨gb, 0, none⟩) 3 cb) 3 by_
theorem AwW.later (h : AwW w wr g g1 g' cap' gf cf gb cb by_) (hb : Below wr.heap.size wr w2) : AwW w w2 g g1 g' cap' gf cf gb cb by_ :=
  ⟨h.box.later hb, (h.arcs.later hb).mono hb.size, (hb.block g1 (Array.getElem?_eq_some_iff.1 h.tb).1).trans h.tb, h.far.below hb, h.by_.below hb⟩
theorem AwW.t0 (h : AwW w wr g g1 g' cap' gf cf gb cb by_) : wr.cell? ⟨g1, 0, none⟩ = some (.slice (some ⟨gf, 0, none⟩) 3 cf) := by simp [World.cell?, h.tb]
theorem AwW.t1 (h : AwW w wr g g1 g' cap' gf cf gb cb by_) : wr.cell? ⟨g1, 1, none⟩ = some (.slice (some ⟨gb, 0, none⟩) 3 cb) := by simp [World.cell?, h.tb]
/-- The graph gets one arc more. -/
theorem AwW.make {A : Nat} (hbox : Box w wr g 3 (some ⟨A, 0, none⟩) 3 3) (hA : w.heap.size ≤ A) (hAg : A < g) (hT : wr.heap[g1]? = some (.cells #[.slice (some ⟨gf, 0, none⟩) 3 cf, .slice (some ⟨gb, 0, none⟩) 3 cb] 31 (0, 0))) (hg1 : g < g1)
    (hf : LongRow wr (g + 1) (.slice (some ⟨gf, 0, none⟩) 3 cf) 3 (valI far3)) (hb : IntRow wr (g + 1) (.slice (some ⟨gb, 0, none⟩) 3 cb) 3 by_)
    (hown : w4.ownsRow w.heap.size 41 3 (.slice (some ⟨g', 0, none⟩) (3 + 1) cap') (3 + 1) ((arcs3.flatMap encA) ++ encA (2, 0, -2))) (hgrow : (wr.alloc o).grownBy w4 (some A)) (hfr : some A = some g' ∨ g' = (wr.alloc o).heap.size) :
    AwW w (w4.setCell ⟨g, 1, none⟩ (.slice (some ⟨g', 0, none⟩) 4 cap')) g g1 g' cap' gf cf gb cb by_ ∧ w4.cell? ⟨g, 1, none⟩ = some (.slice (some ⟨A, 0, none⟩) 3 3) ∧ w4.frozen? ⟨g, 1, none⟩ = false := by
  have hge := hbox.ge
  have hm : Mod (fun k => some A = some k) wr w4 := ((Mod.refl _ wr).alloc o).grown hgrow (fun k hk => .inr hk)
  have hb4 : w4.heap[g]? = some (.cells #[.int .i64 3, .slice (some ⟨A, 0, none⟩) 3 3] 26 (0, 0)) := (hm.block g hbox.lt (fun e => by cases e; omega)).trans hbox.blk
  have hbe : Below w.heap.size w w4 := ((Mod.of_below (fun k => some A = some k) hbox.below).trans hm).below (Nat.le_refl _) (fun k hk => by cases hk; exact hA)
  have hm2 : Mod (fun k => some A = some k ∨ k = g) wr (w4.setCell ⟨g, 1, none⟩ (.slice (some ⟨g', 0, none⟩) 4 cap')) := (hm.mono (fun _ _ h => .inl h)).setCell (p := ⟨g, 1, none⟩) (.inr (.inr rfl)) _
  have hg' : g' ≠ g := by
    rcases hfr with h | h
    · cases h; omega
    · have := hbox.lt; simp at h; omega
  refine ⟨⟨⟨hbe.setCell (show w.heap.size ≤ g from hge) _, hge, heap_setCell_same _ _ _ _ _ _ hb4⟩, ?_, ?_, (hf.kept hm2 (fun k hk h => ?_)).rebase (Nat.zero_le _), owns_rebase (owns_kept hb hm2 (fun k hk h => ?_)) (Nat.zero_le _)⟩, by simp [World.cell?, hb4], frozen_of_row _ _ 1 _ _ hb4⟩
  · have h5 : (w4.setCell ⟨g, 1, none⟩ (.slice (some ⟨g', 0, none⟩) 4 cap')).ownsRow w.heap.size 41 3 (.slice (some ⟨g', 0, none⟩) 4 cap') arcs4.length (flatA arcs4) :=
      ownsRow_setCell_other hown (fun e => hg' (by simpa [Value.ownBlock] using e)) _
    exact (owns_arcs h5).2
  · exact (hm2.block g1 (Array.getElem?_eq_some_iff.1 hT).1 (fun h => by rcases h with h | h; (· cases h; omega); (· omega))).trans hT
  · have := (World.ownsRow.lt hf k hk).1
    rcases h with h | h
    · cases h; omega
    · omega
  · have := (World.ownsRow.lt hb k hk).1
    rcases h with h | h
    · cases h; omega
    · omega

set_option maxHeartbeats 4000000 in
set_option maxRecDepth 100000 in
theorem path_awake (P : PathSpec) (w : World) : Calls Try.prog 7 #[] w fun e w' => e = .returned (.bool true) ∧ Below w.heap.size w w' := by
  obtain ⟨i0, hi, hz0, hz1, hz2⟩ := info_parts infoArcA
  have HA := Lib.hid (arcs3_at w 41 (.cells #[.int .i64 3, .slice (some ⟨w.heap.size, 0, none⟩) 3 3] 26))
  have HB : Hid (Box w ((w.alloc (.cells #[.int .i64 0, .int .i64 1, .int .i64 2, .int .i64 1, .int .i64 2, .int .i64 (-1), .int .i64 0, .int .i64 2, .int .i64 3] 41)).alloc (.cells #[.int .i64 3, .slice (some ⟨w.heap.size, 0, none⟩) 3 3] 26)) (w.heap.size + 1) 3 (some ⟨w.heap.size, 0, none⟩) 3 3) := Lib.hid (by
    have := Box.make ((Below.refl _ w).alloc (Nat.le_refl _) (.cells #[.int .i64 0, .int .i64 1, .int .i64 2, .int .i64 1, .int .i64 2, .int .i64 (-1), .int .i64 0, .int .i64 2, .int .i64 3] 41)) 3 (some ⟨w.heap.size, 0, none⟩) 3 3
    simpa using this)
  have HO : Hid (World.ownsRow ((w.alloc (.cells #[.int .i64 0, .int .i64 1, .int .i64 2, .int .i64 1, .int .i64 2, .int .i64 (-1), .int .i64 0, .int .i64 2, .int .i64 3] 41)).alloc (.cells #[.int .i64 3, .slice (some ⟨w.heap.size, 0, none⟩) 3 3] 26)) w.heap.size 41 3 (.slice (some ⟨w.heap.size, 0, none⟩) 3 3) 3 (arcs3.flatMap encA)) :=
    Lib.hid ((World.ownsRow_lit (base := w.heap.size) (e := 41) (size := 3) w #[.int .i64 0, .int .i64 1, .int .i64 2, .int .i64 1, .int .i64 2, .int .i64 (-1), .int .i64 0, .int .i64 2, .int .i64 3] 3 (Nat.le_refl _) (by decide) rfl).alloc (.cells #[.int .i64 3, .slice (some ⟨w.heap.size, 0, none⟩) 3 3] 26))
  have HSZ : (World.heap ((w.alloc (.cells #[.int .i64 0, .int .i64 1, .int .i64 2, .int .i64 1, .int .i64 2, .int .i64 (-1), .int .i64 0, .int .i64 2, .int .i64 3] 41)).alloc (.cells #[.int .i64 3, .slice (some ⟨w.heap.size, 0, none⟩) 3 3] 26))).size = w.heap.size + 2 := by simp
  have f1 : valI far3 1 = 2 := rfl
  have f2 : valI far3 2 = 1 := rfl
  have HF1 := Lib.hid f1
  have HF2 := Lib.hid f2
  clear f1 f2
  go_enter Try.func7, Try.ntmps7
  go_wp2_with (first
    | (go_at_call_of 9 (Value.slice (some ⟨w.heap.size, 0, none⟩) 3 3); refine (awake_from3 P _ (by simpa using HA.out)).mono ?_; rintro e w2 ⟨hb2, gf, cf, gb, cb, by_, rfl, hlf, hib, ht⟩; have HT := Lib.hid ht; have HB3 := Lib.hid ((HB.out.later hb2).alloc (.cells #[.slice (some ⟨gf, 0, none⟩) 3 cf, .slice (some ⟨gb, 0, none⟩) 3 cb] 31)); have HO4 := Lib.hid (((owns_below HO.out hb2).alloc (.cells #[.slice (some ⟨gf, 0, none⟩) 3 cf, .slice (some ⟨gb, 0, none⟩) 3 cb] 31)).alloc (.cells #[.int .i64 2, .int .i64 0, .int .i64 (-2)] 41)); have HLF := Lib.hid (hlf.below ((Below.refl _ w2).alloc (Nat.le_refl _) (.cells #[.slice (some ⟨gf, 0, none⟩) 3 cf, .slice (some ⟨gb, 0, none⟩) 3 cb] 31))); have HIB := Lib.hid (hib.below ((Below.refl _ w2).alloc (Nat.le_refl _) (.cells #[.slice (some ⟨gf, 0, none⟩) 3 cf, .slice (some ⟨gb, 0, none⟩) 3 cb] 31))); have hs2 := hb2.size; rw [HSZ] at hs2 HLF HIB; have HS2 := Lib.hid hs2; have x0 := HB3.out.c0; have x1 := HB3.out.c1; clear hlf hib ht hb2 hs2)
    | (at_builtin; refine wpList_append_fresh rfl (.tmp 31) (.tmp 33) 24 rfl w.heap.size 41 i0 _ 3 24 Try.underlying24 hi hz0 hz1 hz2 (by decide) (.slice (some ⟨w.heap.size, 0, none⟩) 3 3) 3 (arcs3.flatMap encA) rfl HO4.out ⟨w2.heap.size + 1, 0, none⟩ 1 (encA (2, 0, -2)) rfl rfl (newsA7_at _ (2, 0, -2) _ _ (by simp)) (oneA7 _) (by unfold maxLen; omega) (by omega) (by have := HS2.out; simp; omega) ?_; intro g' cap' w4 hown hgrow hfr; obtain ⟨hp, q0, q1⟩ := AwW.make HB3.out (Nat.le_refl _) (by omega) (heap_alloc_new w2 _) (by have := HS2.out; omega) HLF.out HIB.out hown hgrow hfr; have HP := Lib.hid hp; have r0 := HP.out.box.c0; have r1 := HP.out.box.c1; clear hown hgrow hfr hp)
    | (go_at_call_of 9 (Value.slice (some ⟨g', 0, none⟩) 4 cap'); refine (awake_from4 P cap' _ HP.out.arcs).mono ?_; rintro e w6 ⟨hb6, a1, c1, a2, c2, rfl⟩; have HQ := Lib.hid ((HP.out.later hb6).later ((Below.refl _ w6).alloc (Nat.le_refl _) (.cells #[.slice a1 0 c1, .slice a2 0 c2] 31))); have s0 := HQ.out.box.c0; have s1 := HQ.out.box.c1; have s2 := HQ.out.t0; have s3 := HQ.out.t1; have s4 := HQ.out.far.cell (i := 1) (by omega); have s5 := HQ.out.far.cell (i := 2) (by omega); rw [HF1.out] at s4; rw [HF2.out] at s5; clear hb6)
    | (go_at_call 19; refine (awake_way P cap' _ HQ.out.arcs HT.out HQ.out.far HQ.out.by_).mono ?_; rintro e w8 ⟨v, c, rfl, hrow, hb8⟩; have HQ8 := Lib.hid ((HQ.out.later hb8).later ((Below.refl _ w8).alloc (Nat.le_refl _) (.cells #[.int .i64 0, .int .i64 1] 3))); have HR8 := Lib.hid (hrow.alloc (.cells #[.int .i64 0, .int .i64 1] 3)); have HL8 : Hid ((w8.alloc (.cells #[.int .i64 0, .int .i64 1] 3)).ownsRow w8.heap.size 3 1 (.slice (some ⟨w8.heap.size, 0, none⟩) 2 2) [(0 : Int), 1].length (numsV [0, 1])) := Lib.hid (World.ownsRow_lit (base := w8.heap.size) (e := 3) (size := 1) w8 #[.int .i64 0, .int .i64 1] 2 (Nat.le_refl _) (by decide) rfl); clear hrow hb8)
    | (go_at_call 18; refine (eqIntsAt (t := [0, 1]) rfl HR8.out HL8.out (by decide)).mono ?_; rintro e w9 ⟨rfl, hb9⟩; have HQ9 := Lib.hid (HQ8.out.later hb9); have u0 := HQ9.out.box.c0; have u1 := HQ9.out.box.c1; clear hb9)
    | (go_at_call 12; refine (awake_cycle P cap' _ HQ9.out.arcs).mono ?_; rintro e w10 ⟨hb10, a5, c5, rfl⟩; have HQ10 := Lib.hid (HQ9.out.later hb10); clear hb10))
  go_ret
  exact ⟨rfl, HQ10.out.box.below⟩
end Go.Proofs.Ytmmhdjibigopfaa
