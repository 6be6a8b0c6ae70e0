/- Package inst: Clone. -/
import Derived.Test.YtkapknfcepcijaaIClone
import Derived.Test.YtkapknfcepcijaaIMakeW
import Derived.Deep.RegionWith
import Derived.Deep.CutRange
namespace Go.Proofs.Ytkapknfcepcijaa
open Go.RowKit

theorem below1c (W : World) (o1 : Obj) : Below W.heap.size W (W.alloc o1) := (Below.refl _ W).alloc (Nat.le_refl _) _
variable {w wr w2 : World} {A A2 : InA} {x : Ins} {B g : Nat} {v m0 m1 u : Value} {L : List (List Int)} {p : Addr} {c0 c1 c2 c3 c4 c5 c6 c7 c8 : Value}
theorem RowsOwn.later (h : RowsOwn w B v L) (hb : Below w.heap.size w w2) : RowsOwn w2 B v L := by
  obtain ⟨V, h1, h2⟩ := h
  exact ⟨V, owns_below h1 hb, fun i r hr => owns_below (h2 i r hr) hb⟩
theorem RowsOwn.set_ (h : RowsOwn w B v L) (hp : p.block < B) (u : Value) : RowsOwn (w.setCell p u) B v L := by
  obtain ⟨V, h1, h2⟩ := h
  exact ⟨V, ownsRow_setCell_other (a := p) h1 (fun e => by have := (World.ownsRow.lt h1 _ e).1; omega) u, fun i r hr => ownsRow_setCell_other (a := p) (h2 i r hr) (fun e => by have := (World.ownsRow.lt (h2 i r hr) _ e).1; omega) u⟩
theorem RowsOwn.rebase {B2 : Nat} (h : RowsOwn w B v L) (hb : B2 ≤ B) : RowsOwn w B2 v L := by
  obtain ⟨V, h1, h2⟩ := h
  exact ⟨V, owns_rebase h1 hb, fun i r hr => owns_rebase (h2 i r hr) hb⟩
theorem RowsOwn.shape (h : RowsOwn w B v L) : ∃ a c, v = .slice a L.length c := by
  obtain ⟨V, h1, _⟩ := h
  exact owns_shape h1
/-- An instance as one's own. -/
structure CloOf (w : World) (B : Nat) (A : InA) (x : Ins) : Prop where
  sats : w.ownsRow B 42 2 (.slice A.sa x.sats.length A.sc) x.sats.length (flatS x.sats)
  cus : w.ownsRow B 44 4 (.slice A.ca x.cus.length A.cc) x.cus.length (flatC x.cus)
  cost : RowsOwn w B (.slice A.ka x.cost.length A.kc) x.cost
  time : RowsOwn w B (.slice A.ta x.time.length A.tc) x.time
theorem CloOf.set_ (h : CloOf w B A x) (hp : p.block < B) (u : Value) : CloOf (w.setCell p u) B A x :=
  ⟨ownsRow_setCell_other (a := p) h.sats (fun e => by have := (World.ownsRow.lt h.sats _ e).1; omega) u, ownsRow_setCell_other (a := p) h.cus (fun e => by have := (World.ownsRow.lt h.cus _ e).1; omega) u, h.cost.set_ hp u, h.time.set_ hp u⟩
theorem CloOf.rebase {B2 : Nat} (h : CloOf w B A x) (hb : B2 ≤ B) : CloOf w B2 A x := ⟨owns_rebase h.sats hb, owns_rebase h.cus hb, h.cost.rebase hb, h.time.rebase hb⟩
theorem CloOf.later (h : CloOf w B A x) (hb : Below w.heap.size w w2) : CloOf w2 B A x := ⟨owns_below h.sats hb, owns_below h.cus hb, h.cost.later hb, h.time.later hb⟩
theorem storeI_clo {r : Nat} {y0 y1 y2 y3 y4 y5 y6 y7 y8 : Value} (h : CloOf w B A x) (hb : r < B) : CloOf (storeI w r y0 y1 y2 y3 y4 y5 y6 y7 y8) B A x :=
  ((((((((h.set_ (p := ⟨r, 0, none⟩) hb _).set_ (p := ⟨r, 1, none⟩) hb _).set_ (p := ⟨r, 2, none⟩) hb _).set_ (p := ⟨r, 3, none⟩) hb _).set_ (p := ⟨r, 4, none⟩) hb _).set_ (p := ⟨r, 5, none⟩) hb _).set_ (p := ⟨r, 6, none⟩) hb _).set_ (p := ⟨r, 7, none⟩) hb _).set_ (p := ⟨r, 8, none⟩) hb _
/-- What Clone has: its argument's box, its result's box, the two matrices in a row. -/
structure CQ (w wr : World) (C : Array Value) (g : Nat) (m0 m1 : Value) : Prop where
  below : Below w.heap.size w wr
  box : wr.heap[w.heap.size]? = some (.cells C 28 (0, 0))
  res : wr.heap[w.heap.size + 1]? = some (.cells #[.int .i64 0, .int .i64 0, .int .i64 0, .int .i64 0, .int .i64 0, .slice none 0 0, .slice none 0 0, .slice none 0 0, .slice none 0 0] 28 (0, 0))
  mat : wr.heap[g]? = some (.cells #[m0, m1] 64 (0, 0))
  ge : w.heap.size + 2 ≤ g
theorem CQ.lt {C : Array Value} (h : CQ w wr C g m0 m1) : g < wr.heap.size := (Array.getElem?_eq_some_iff.1 h.mat).1
theorem CQ.later {C : Array Value} (h : CQ w wr C g m0 m1) (hb : Below wr.heap.size wr w2) : CQ w w2 C g m0 m1 :=
  have hl := h.lt
  have hg := h.ge
  ⟨h.below.trans (hb.mono h.below.size), (hb.block _ (by omega)).trans h.box, (hb.block _ (by omega)).trans h.res, (hb.block _ hl).trans h.mat, h.ge⟩
theorem CQ.set0 {C : Array Value} (h : CQ w wr C g m0 m1) (u : Value) : CQ w (wr.setCell ⟨g, 0, none⟩ u) C g u m1 :=
  have hg := h.ge
  ⟨h.below.setCell (p := ⟨g, 0, none⟩) (by simp; omega) _, (heap_setCell_other _ _ _ _ (fun e => by have e2 : w.heap.size = g := e; omega)).trans h.box, (heap_setCell_other _ _ _ _ (fun e => by have e2 : w.heap.size + 1 = g := e; omega)).trans h.res, heap_setCell_same _ _ _ _ _ _ h.mat, hg⟩
theorem CQ.set1 {C : Array Value} (h : CQ w wr C g m0 m1) (u : Value) : CQ w (wr.setCell ⟨g, 1, none⟩ u) C g m0 u :=
  have hg := h.ge
  ⟨h.below.setCell (p := ⟨g, 1, none⟩) (by simp; omega) _, (heap_setCell_other _ _ _ _ (fun e => by have e2 : w.heap.size = g := e; omega)).trans h.box, (heap_setCell_other _ _ _ _ (fun e => by have e2 : w.heap.size + 1 = g := e; omega)).trans h.res, heap_setCell_same _ _ _ _ _ _ h.mat, hg⟩
theorem CQ.setB {C : Array Value} (h : CQ w wr C g m0 m1) (i : Nat) (u : Value) : CQ w (wr.setCell ⟨w.heap.size, i, none⟩ u) (C.setIfInBounds i u) g m0 m1 :=
  have hg := h.ge
  ⟨h.below.setCell (p := ⟨w.heap.size, i, none⟩) (by simp) _, heap_setCell_same _ _ _ _ _ _ h.box, (heap_setCell_other _ _ _ _ (fun e => by have e2 : w.heap.size + 1 = w.heap.size := e; omega)).trans h.res, (heap_setCell_other _ _ _ _ (fun e => by have e2 : g = w.heap.size := e; omega)).trans h.mat, hg⟩
theorem CQ.m {C : Array Value} (h : CQ w wr C g m0 m1) : wr.cell? ⟨g, 0, none⟩ = some m0 ∧ wr.cell? ⟨g, 1, none⟩ = some m1 ∧ ∀ k, wr.frozen? ⟨g, k, none⟩ = false := ⟨by simp [World.cell?, h.mat], by simp [World.cell?, h.mat], fun k => by simp [World.frozen?, h.mat]⟩
theorem cells9q {T : TypeId} (h : wr.heap[g]? = some (.cells #[c0, c1, c2, c3, c4, c5, c6, c7, c8] T (0, 0))) : wr.cell? ⟨g, 0, none⟩ = some c0 ∧ wr.cell? ⟨g, 1, none⟩ = some c1 ∧ wr.cell? ⟨g, 2, none⟩ = some c2 ∧ wr.cell? ⟨g, 3, none⟩ = some c3 ∧ wr.cell? ⟨g, 4, none⟩ = some c4 ∧ wr.cell? ⟨g, 5, none⟩ = some c5 ∧ wr.cell? ⟨g, 6, none⟩ = some c6 ∧ wr.cell? ⟨g, 7, none⟩ = some c7 ∧ wr.cell? ⟨g, 8, none⟩ = some c8 ∧ ∀ k, wr.frozen? ⟨g, k, none⟩ = false :=
  ⟨by simp [World.cell?, h], by simp [World.cell?, h], by simp [World.cell?, h], by simp [World.cell?, h], by simp [World.cell?, h], by simp [World.cell?, h], by simp [World.cell?, h], by simp [World.cell?, h], by simp [World.cell?, h], fun k => by simp [World.frozen?, h]⟩
theorem light_parts (h : x.light = true) : x.sats.length ≤ 40 ∧ x.cus.length ≤ 60 ∧ x.cost.length ≤ 70 ∧ x.time.length ≤ 70 ∧ (∀ (i : Nat) (r : List Int), x.cost[i]? = some r → r.length ≤ 80) ∧ ∀ (i : Nat) (r : List Int), x.time[i]? = some r → r.length ≤ 80 := by
  simp only [Ins.light, Bool.and_eq_true, decide_eq_true_eq, List.all_eq_true] at h
  obtain ⟨⟨⟨⟨⟨a, b⟩, c⟩, d⟩, e⟩, f⟩ := h
  exact ⟨a, b, c, d, fun i r hr => e r (List.mem_of_getElem? hr), fun i r hr => f r (List.mem_of_getElem? hr)⟩
set_option maxHeartbeats 4000000 in
set_option maxRecDepth 100000 in
theorem clone_any (A : InA) (x : Ins) (w : World) (hi : IsIns w.heap.size w A x) (hl : x.light = true) :
    Calls Try.prog 19 #[.agg (insC A x)] w fun e w' => Below w.heap.size w w' ∧ ∃ A2, e = .returned (.agg (insC A2 x)) ∧ CloOf w' w.heap.size A2 x := by
  obtain ⟨l1, l2, l3, l4, l5, l6⟩ := light_parts hl
  have HI := Lib.hid hi
  have HL5 : Hid (∀ (i : Nat) (r : List Int), x.cost[i]? = some r → r.length ≤ 1000) := Lib.hid (fun i r hr => Nat.le_trans (l5 i r hr) (by omega))
  have HL6 : Hid (∀ (i : Nat) (r : List Int), x.time[i]? = some r → r.length ≤ 1000) := Lib.hid (fun i r hr => Nat.le_trans (l6 i r hr) (by omega))
  clear hi hl l5 l6
  have HG := Lib.hid (XBox.make (Below.refl _ w) A x)
  have HW1 : Hid (((w.alloc (.cells (insC A x) 28)).alloc (.cells #[.int .i64 0, .int .i64 0, .int .i64 0, .int .i64 0, .int .i64 0, .slice none 0 0, .slice none 0 0, .slice none 0 0, .slice none 0 0] 28)).heap[w.heap.size + 1]? = some (.cells #[.int .i64 0, .int .i64 0, .int .i64 0, .int .i64 0, .int .i64 0, .slice none 0 0, .slice none 0 0, .slice none 0 0, .slice none 0 0] 28 (0, 0))) := Lib.hid (by
    have e : (w.alloc (.cells (insC A x) 28)).heap.size = w.heap.size + 1 := by simp
    rw [← e]; exact heap_alloc_new _ _)
  have HX1 := Lib.hid (HG.out.later (below1c (w.alloc (.cells (insC A x) 28)) (.cells #[.int .i64 0, .int .i64 0, .int .i64 0, .int .i64 0, .int .i64 0, .slice none 0 0, .slice none 0 0, .slice none 0 0, .slice none 0 0] 28)))
  have hz1 : ((w.alloc (.cells (insC A x) 28)).alloc (.cells #[.int .i64 0, .int .i64 0, .int .i64 0, .int .i64 0, .int .i64 0, .slice none 0 0, .slice none 0 0, .slice none 0 0, .slice none 0 0] 28)).heap.size = w.heap.size + 2 := by simp
  go_enter Try.func19, Try.ntmps19
  go_wp2_with (go_at_call 29; refine (matrices_any A x _).mono ?_; rintro e w2 ⟨rfl, hb2⟩; have HQ0 : Hid (CQ w (w2.alloc (.cells #[.slice A.ka x.cost.length A.kc, .slice A.ta x.time.length A.tc] 64)) (insC A x) w2.heap.size (.slice A.ka x.cost.length A.kc) (.slice A.ta x.time.length A.tc)) := Lib.hid (by
      have hx := (HX1.out.later hb2).later (below1c w2 (.cells #[.slice A.ka x.cost.length A.kc, .slice A.ta x.time.length A.tc] 64))
      have hs := hb2.size
      rw [hz1] at hs
      exact ⟨hx.below, hx.blk, ((below1c w2 _).block _ (by omega)).trans ((hb2.block _ (by rw [hz1]; omega)).trans HW1.out), heap_alloc_new _ _, hs⟩); clear hb2)
  obtain ⟨g, hg⟩ : ∃ g, w2.heap.size = g := ⟨_, rfl⟩
  obtain ⟨W2, hW2⟩ : ∃ W2, w2.alloc (.cells #[.slice A.ka x.cost.length A.kc, .slice A.ta x.time.length A.tc] 64) = W2 := ⟨_, rfl⟩
  rw [hg, hW2] at HQ0
  try rw [hg]
  try rw [hW2]
  clear hg hW2 HX1 HW1 HG hz1
  have HL : Hid (g < W2.heap.size ∧ w.heap.size + 2 ≤ g) := Lib.hid ⟨HQ0.out.lt, HQ0.out.ge⟩
  have hx0 : ∀ W, (Instr.index 64 (.agg #[.slice A.ka x.cost.length A.kc, .slice A.ta x.time.length A.tc]) (.int .i64 0)).run Try.prog W = .ok (.slice A.ka x.cost.length A.kc) W := fun W => by kernel_rfl
  have hx1 : ∀ W, (Instr.index 64 (.agg #[.slice A.ka x.cost.length A.kc, .slice A.ta x.time.length A.tc]) (.int .i64 1)).run Try.prog W = .ok (.slice A.ta x.time.length A.tc) W := fun W => by kernel_rfl
  refine wp_loop_rounds 3 ?_
  rw [rounds_succ]
  obtain ⟨m0, m1, mf⟩ := HQ0.out.m
  go_wp2_with (go_at_call 33; refine (cloned_any A.ka A.kc x.cost _ (by omega) HL5.out ((HI.out.cost.later HQ0.out.below).mono HQ0.out.below.size)).mono ?_; rintro e w3 ⟨hb3, v, rfl, hr⟩; obtain ⟨va, vc, rfl⟩ := hr.shape; have HQ1 := Lib.hid (HQ0.out.later hb3); have HQ2 := Lib.hid (HQ1.out.set0 (.slice va x.cost.length vc)); have HRC := Lib.hid (hr.set_ (p := ⟨g, 0, none⟩) HL.out.1 (.slice va x.cost.length vc)); have HZ := Lib.hid hb3.size; clear hb3 hr m0 m1 mf; obtain ⟨m0, m1, mf⟩ := HQ1.out.m)
  clear m0 m1 mf
  obtain ⟨W3, hW3⟩ : ∃ W3, w3.setCell ⟨g, 0, none⟩ (.slice va x.cost.length vc) = W3 := ⟨_, rfl⟩
  have HZ3 : Hid (W2.heap.size ≤ W3.heap.size) := Lib.hid (by rw [← hW3]; simpa using HZ.out)
  rw [hW3] at HQ2 HRC
  try rw [hW3]
  clear hW3 HQ1
  rw [rounds_succ]
  obtain ⟨m0, m1, mf⟩ := HQ2.out.m
  go_wp2_with (go_at_call 33; refine (cloned_any A.ta A.tc x.time _ (by omega) HL6.out ((HI.out.time.later HQ2.out.below).mono HQ2.out.below.size)).mono ?_; rintro e w4 ⟨hb4, v, rfl, hr⟩; obtain ⟨ta, tc, rfl⟩ := hr.shape; have HQ3 := Lib.hid (HQ2.out.later hb4); have HQ4 := Lib.hid (HQ3.out.set1 (.slice ta x.time.length tc)); have HRT := Lib.hid ((hr.rebase HZ3.out).set_ (p := ⟨g, 1, none⟩) HL.out.1 (.slice ta x.time.length tc)); have HZT := Lib.hid hb4.size; have HRC4 := Lib.hid ((HRC.out.later hb4).set_ (p := ⟨g, 1, none⟩) HL.out.1 (.slice ta x.time.length tc)); clear hb4 hr m0 m1 mf; obtain ⟨m0, m1, mf⟩ := HQ3.out.m)
  clear m0 m1 mf
  have HZ4a : Hid (W2.heap.size ≤ (w4.setCell ⟨g, 1, none⟩ (.slice ta x.time.length tc)).heap.size) := Lib.hid (by simpa using Nat.le_trans HZ3.out HZT.out)
  obtain ⟨W4, hW4⟩ : ∃ W4, w4.setCell ⟨g, 1, none⟩ (.slice ta x.time.length tc) = W4 := ⟨_, rfl⟩
  rw [hW4] at HQ4 HRC4 HRT HZ4a
  try rw [hW4]
  have HZ4 : Hid (W2.heap.size ≤ W4.drew.heap.size) := Lib.hid HZ4a.out
  clear hW4 HQ3 HRC HZ HZ3 HQ2 HQ0 HZ4a
  have HB2 : Hid (w.heap.size + 1 < W2.heap.size) := Lib.hid (by have := HL.out; omega)
  rw [rounds_succ]
  go_upto_region 7 with fail
  go_cut [] from 18 to 25 (fun wx => ∃ sa sc ca cc, CQ w wx #[.int .i64 x.en, .int .i64 x.tm, .int .i64 x.tr, .int .i64 x.bm, .int .i64 x.br, .slice sa x.sats.length sc, .slice ca x.cus.length cc, .slice A.ka x.cost.length A.kc, .slice A.ta x.time.length A.tc] g (.slice va x.cost.length vc) (.slice ta x.time.length tc) ∧ CloOf wx W2.heap.size ⟨sa, sc, ca, cc, va, vc, ta, tc⟩ x)
  case first =>
    have HQ5 := Lib.hid (HQ4.out.later (Below.refl W4.heap.size W4).drew)
    have HI5 := Lib.hid ((HI.out.later HQ5.out.below).mono HQ5.out.below.size)
    have HRC5 := Lib.hid (HRC4.out.later (Below.refl W4.heap.size W4).drew)
    have HRT5 := Lib.hid (HRT.out.later (Below.refl W4.heap.size W4).drew)
    have HZ5 : Hid (w.heap.size ≤ W4.drew.heap.size ∧ W2.heap.size ≤ W4.drew.heap.size) := Lib.hid ⟨HQ5.out.below.size, HZ4.out⟩
    obtain ⟨k0, k1, k2, k3, k4, k5, k6, k7, k8, kf⟩ := cells9q HQ5.out.box
    go_region_with (first
      | (go_at_call 34; refine (cloneSat _ _ _ _ _ (by omega) HI5.out.sats.src).mono ?_; rintro e w6 ⟨hb6, v, rfl, h6⟩; obtain ⟨sa, sc, rfl⟩ := owns_shape h6; have HQ6 := Lib.hid (HQ5.out.later hb6); have HI6 := Lib.hid ((HI.out.later HQ6.out.below).mono HQ6.out.below.size); have HRC6 := Lib.hid (HRC5.out.later hb6); have HRT6 := Lib.hid (HRT5.out.later hb6); have HS6 := Lib.hid (owns_rebase h6 HZ5.out.2); clear k0 k1 k2 k3 k4 k5 k6 k7 k8 kf; obtain ⟨k0, k1, k2, k3, k4, k5, k6, k7, k8, kf⟩ := cells9q HQ6.out.box; have HZ6 := Lib.hid (Nat.le_trans HZ5.out.2 hb6.size); clear hb6 h6)
      | (go_at_call 35; refine (cloneCus _ _ _ _ _ (by omega) HI6.out.cus.src).mono ?_; rintro e w7 ⟨hb7, v, rfl, h7⟩; obtain ⟨ca, cc, rfl⟩ := owns_shape h7; have HQ7 := Lib.hid (HQ6.out.later hb7); have HRC7 := Lib.hid (HRC6.out.later hb7); have HRT7 := Lib.hid (HRT6.out.later hb7); have HS7 := Lib.hid (owns_below HS6.out hb7); have HC7 := Lib.hid (owns_rebase h7 HZ6.out); clear k0 k1 k2 k3 k4 k5 k6 k7 k8 kf; obtain ⟨k0, k1, k2, k3, k4, k5, k6, k7, k8, kf⟩ := cells9q HQ7.out.box; clear hb7 h7))
    all_goals
      have HQ8 : Hid (CQ w ((w7.setCell ⟨w.heap.size, 5, none⟩ (.slice sa x.sats.length sc)).setCell ⟨w.heap.size, 6, none⟩ (.slice ca x.cus.length cc)) #[.int .i64 x.en, .int .i64 x.tm, .int .i64 x.tr, .int .i64 x.bm, .int .i64 x.br, .slice sa x.sats.length sc, .slice ca x.cus.length cc, .slice A.ka x.cost.length A.kc, .slice A.ta x.time.length A.tc] g (.slice va x.cost.length vc) (.slice ta x.time.length tc)) := Lib.hid ((HQ7.out.setB 5 (.slice sa x.sats.length sc)).setB 6 (.slice ca x.cus.length cc))
      have HC8 : Hid (CloOf ((w7.setCell ⟨w.heap.size, 5, none⟩ (.slice sa x.sats.length sc)).setCell ⟨w.heap.size, 6, none⟩ (.slice ca x.cus.length cc)) W2.heap.size ⟨sa, sc, ca, cc, va, vc, ta, tc⟩ x) := Lib.hid (((CloOf.mk (A := ⟨sa, sc, ca, cc, va, vc, ta, tc⟩) HS7.out HC7.out HRC7.out HRT7.out).set_ (p := ⟨w.heap.size, 5, none⟩) (Nat.lt_trans (Nat.lt_succ_self _) HB2.out) _).set_ (p := ⟨w.heap.size, 6, none⟩) (Nat.lt_trans (Nat.lt_succ_self _) HB2.out) _)
      go_wp2_with fail
      go_meet
      exact ⟨_, _, _, _, HQ8.out, HC8.out⟩
  case rest =>
    obtain ⟨sa, sc, ca, cc, hQ8, hC8⟩ := hcut
    have HQ8 := Lib.hid hQ8
    have HC8 := Lib.hid hC8
    clear hQ8 hC8 HQ4 HRC4 HRT HZ4 hx0 hx1
    go_upto_region 8 with fail
    go_cut [] from 26 to 31 (fun wx => CQ w wx #[.int .i64 x.en, .int .i64 x.tm, .int .i64 x.tr, .int .i64 x.bm, .int .i64 x.br, .slice sa x.sats.length sc, .slice ca x.cus.length cc, .slice va x.cost.length vc, .slice ta x.time.length tc] g (.slice va x.cost.length vc) (.slice ta x.time.length tc) ∧ CloOf wx W2.heap.size ⟨sa, sc, ca, cc, va, vc, ta, tc⟩ x)
    case first =>
      have HQ10 : Hid (CQ w (wc.setCell ⟨w.heap.size, 7, none⟩ (.slice va x.cost.length vc)) #[.int .i64 x.en, .int .i64 x.tm, .int .i64 x.tr, .int .i64 x.bm, .int .i64 x.br, .slice sa x.sats.length sc, .slice ca x.cus.length cc, .slice va x.cost.length vc, .slice A.ta x.time.length A.tc] g (.slice va x.cost.length vc) (.slice ta x.time.length tc)) := Lib.hid (HQ8.out.setB 7 (.slice va x.cost.length vc))
      have HQ11 : Hid (CQ w ((wc.setCell ⟨w.heap.size, 7, none⟩ (.slice va x.cost.length vc)).setCell ⟨w.heap.size, 8, none⟩ (.slice ta x.time.length tc)) #[.int .i64 x.en, .int .i64 x.tm, .int .i64 x.tr, .int .i64 x.bm, .int .i64 x.br, .slice sa x.sats.length sc, .slice ca x.cus.length cc, .slice va x.cost.length vc, .slice ta x.time.length tc] g (.slice va x.cost.length vc) (.slice ta x.time.length tc)) := Lib.hid (HQ10.out.setB 8 (.slice ta x.time.length tc))
      have HC11 := Lib.hid ((HC8.out.set_ (p := ⟨w.heap.size, 7, none⟩) (Nat.lt_trans (Nat.lt_succ_self _) HB2.out) (.slice va x.cost.length vc)).set_ (p := ⟨w.heap.size, 8, none⟩) (Nat.lt_trans (Nat.lt_succ_self _) HB2.out) (.slice ta x.time.length tc))
      have HQ12 := Lib.hid (HQ11.out.later (Below.refl _ _).drew)
      have HC12 := Lib.hid (HC11.out.later (Below.refl _ _).drew)
      obtain ⟨_, _, _, _, _, _, _, k7, k8, kf⟩ := cells9q HQ8.out.box
      obtain ⟨_, _, _, _, _, _, _, _, r8, rf⟩ := cells9q HQ10.out.box
      obtain ⟨m0, m1, mf⟩ := HQ8.out.m
      obtain ⟨n0, n1, nf⟩ := HQ10.out.m
      go_region
      all_goals
        go_wp2_with fail
        go_meet
        exact ⟨HQ12.out, HC12.out⟩
    case rest =>
      obtain ⟨hQ9, hC9⟩ := hcut
      have HQ11 := Lib.hid hQ9
      have HC11 := Lib.hid hC9
      clear hQ9 hC9 HQ8 HC8
      obtain ⟨q0, q1, q2, q3, q4, q5, q6, q7, q8, qf⟩ := cells9 HQ11.out.box
      obtain ⟨n0, n1, n2, n3, n4, n5, n6, n7, n8, nf⟩ := cells9 HQ11.out.res
      go_wp2_with fail
      have hb9 := storeI_blk (y0 := .int .i64 x.en) (y1 := .int .i64 x.tm) (y2 := .int .i64 x.tr) (y3 := .int .i64 x.bm) (y4 := .int .i64 x.br) (y5 := .slice sa x.sats.length sc) (y6 := .slice ca x.cus.length cc) (y7 := .slice va x.cost.length vc) (y8 := .slice ta x.time.length tc) HQ11.out.res
      obtain ⟨z0, z1, z2, z3, z4, z5, z6, z7, z8, _⟩ := cells9 hb9
      unfold storeI at z0 z1 z2 z3 z4 z5 z6 z7 z8
      refine bodyPost_ret (v := .agg (insC ⟨sa, sc, ca, cc, va, vc, ta, tc⟩ x)) ?_ rfl ⟨storeI_below HQ11.out.below (by omega), ⟨sa, sc, ca, cc, va, vc, ta, tc⟩, rfl, (storeI_clo HC11.out HB2.out).rebase (by have := HB2.out; omega)⟩
      unfold insC
      clear q0 q1 q2 q3 q4 q5 q6 q7 q8 qf n0 n1 n2 n3 n4 n5 n6 n7 n8 nf hb9
      simp only [results, Try.results19]
      simp [go_sem, z0, z1, z2, z3, z4, z5, z6, z7, z8]
end Go.Proofs.Ytkapknfcepcijaa
