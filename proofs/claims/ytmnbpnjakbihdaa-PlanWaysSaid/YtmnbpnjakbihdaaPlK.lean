/- Package plan: Check. -/
import Derived.Test.YtmnbpnjakbihdaaPlC
import Derived.Test.YtmnbpnjakbihdaaSetLen
import Derived.Test.YtmnbpnjakbihdaaEq64
namespace Go.Proofs.Ytmnbpnjakbihdaa
open Go.RowKit

variable {w wr w2 : World} {A : InA} {x : Ins} {B n g N : Nat} {P : PlA} {p : Pl} {f : Nat → Int}
/-- The instance's box, and the plan's. -/
structure PX (w wr : World) (A : InA) (x : Ins) (P : PlA) (p : Pl) : Prop where
  below : Below w.heap.size w wr
  inst : wr.heap[w.heap.size]? = some (.cells (insC A x) 37 (0, 0))
  plan : wr.heap[w.heap.size + 1]? = some (.cells (plC P p) 42 (0, 0))
theorem PX.make (w : World) (A : InA) (x : Ins) (P : PlA) (p : Pl) : PX w ((w.alloc (.cells (insC A x) 37)).alloc (.cells (plC P p) 42)) A x P p := by
  have h1 := CBox.make (Below.refl _ w) (insC A x) 37
  have h2 := CBox.make h1.below (plC P p) 42
  have hz : (w.alloc (.cells (insC A x) 37)).heap.size = w.heap.size + 1 := by simp
  rw [hz] at h2
  exact ⟨h2.below, (h1.alloc _).blk, h2.blk⟩
theorem PX.later (h : PX w wr A x P p) (hb : Below wr.heap.size wr w2) : PX w w2 A x P p := by
  have h1 : CBox w wr w.heap.size (insC A x) 37 := ⟨h.below, Nat.le_refl _, h.inst⟩
  have h2 : CBox w wr (w.heap.size + 1) (plC P p) 42 := ⟨h.below, Nat.le_succ _, h.plan⟩
  exact ⟨(h1.later hb).below, (h1.later hb).blk, (h2.later hb).blk⟩
theorem PX.drew (h : PX w wr A x P p) : PX w wr.drew A x P p := h.later (Below.refl _ _).drew
theorem PX.cells (W : World) (h : PX w W A x P p) : W.cell? ⟨w.heap.size, 0, none⟩ = some (.int .i64 x.en) ∧ W.cell? ⟨w.heap.size, 1, none⟩ = some (.int .i64 x.tm) ∧ W.cell? ⟨w.heap.size, 2, none⟩ = some (.int .i64 x.tr) ∧ W.cell? ⟨w.heap.size, 3, none⟩ = some (.int .i64 x.bm) ∧ W.cell? ⟨w.heap.size, 4, none⟩ = some (.int .i64 x.br) ∧ W.cell? ⟨w.heap.size, 5, none⟩ = some (.slice A.sa x.sats.length A.sc) ∧ W.cell? ⟨w.heap.size, 6, none⟩ = some (.slice A.ca x.cus.length A.cc) ∧ W.cell? ⟨w.heap.size, 7, none⟩ = some (.slice A.ka x.cost.length A.kc) ∧ W.cell? ⟨w.heap.size, 8, none⟩ = some (.slice A.ta x.time.length A.tc) ∧ W.cell? ⟨w.heap.size + 1, 0, none⟩ = some (.slice P.ta p.tr.length P.tc) ∧ W.cell? ⟨w.heap.size + 1, 1, none⟩ = some (.slice P.ba p.bk.length P.bc) := by
  obtain ⟨d0, d1, d2, d3, d4, d5, d6, d7, d8⟩ := CBox.inst (A := A) (x := x) ⟨h.below, Nat.le_refl _, h.inst⟩
  exact ⟨d0, d1, d2, d3, d4, d5, d6, d7, d8, by simp [World.cell?, h.plan], by simp [World.cell?, h.plan]⟩
theorem MRow.nums (h : MRow w g N f) : IsNums w.heap.size w (some ⟨g, 0, none⟩) N ((List.range N).map f) :=
  ⟨by simp, .inr ⟨g, 0, rfl, h.lt, fun j x hj => by
    have hjn : j < N := by have := (List.getElem?_eq_some_iff.1 hj).1; simpa using this
    rw [Nat.zero_add, World.rowIs.cell h hjn]
    simp [hjn] at hj
    rw [hj]⟩⟩
theorem range_len : ∀ n, n < 65 → ((List.range 64).filter (fun i => decide (i < n))).length = n := by decide +kernel
/-- All are served, just where as many are as there are. -/
theorem served_all {F : List Int} {n : Nat} (hn : n ≤ 60) (hF : ∀ c ∈ F, amB c n = true) : ((allN (ofN F)).length < n) ↔ ¬ (∀ c : Nat, c < n → (c : Int) ∈ F) := by
  have hb : ∀ i : Nat, i < 64 → ((ofN F).testBit i = true ↔ (i : Int) ∈ F) := fun i hi => by
    rw [ofN_bit _ _ hi]
    unfold inB
    rw [List.any_eq_true]
    constructor
    · rintro ⟨d, hd, e⟩
      have e := of_decide_eq_true e
      rwa [← e]
    · intro hc
      exact ⟨_, hc, decide_eq_true rfl⟩
  constructor
  · intro h hall
    have e : allN (ofN F) = (List.range 64).filter (fun i => decide (i < n)) := by
      unfold allN
      refine List.filter_congr fun i hi => ?_
      rw [Bool.eq_iff_iff, decide_eq_true_eq, hb i (List.mem_range.1 hi)]
      exact ⟨fun h => by have := amB_true.1 (hF _ h); omega, fun h => hall i h⟩
    rw [e, range_len n (by omega)] at h
    omega
  · intro h
    have ⟨c, hc, hcF⟩ : ∃ c : Nat, c < n ∧ ¬ (c : Int) ∈ F := by
      apply Classical.byContradiction
      intro hh
      exact h (fun c hc => Classical.byContradiction (fun h2 => hh ⟨c, hc, h2⟩))
    have hnd : (allN (ofN F)).Nodup := List.Nodup.sublist List.filter_sublist List.nodup_range
    have h1 : (c :: allN (ofN F)).Nodup := List.nodup_cons.2 ⟨fun hm => hcF ((hb c (by omega)).1 ((mem_allN _ _).1 hm).2), hnd⟩
    have h2 := nodup_leP n _ h1 (fun i hi => by
      rcases List.mem_cons.1 hi with rfl | hi
      · exact hc
      · have hi := (mem_allN _ _).1 hi
        have := amB_true.1 (hF _ ((hb i hi.1).1 hi.2))
        omega)
    rw [List.length_cons] at h2
    omega
theorem BGo.flat {ns nc : Nat} {l : List (Int × List Int)} (h : BGo ns nc l) : ∀ c ∈ flatB l, amB c nc = true := fun c hc => by
  obtain ⟨b, hb, hcb⟩ := List.mem_flatMap.1 hc
  obtain ⟨k, hk⟩ := List.getElem?_of_mem hb
  obtain ⟨j, hj⟩ := List.getElem?_of_mem hcb
  exact ((h k b hk).2.2 j c hj).1
/-- Of an instance that may not be. -/
theorem pcheck_bad (A : InA) (x : Ins) (P : PlA) (p : Pl) (w : World) (hx : IsIns w.heap.size w A x) (hl3 : x.cost.length ≤ 9223372036854775807) (hl4 : x.time.length ≤ 9223372036854775807) (hne : instErr x ≠ 0) :
    Calls Try.prog 15 #[.agg (insC A x), .agg (plC P p)] w fun e w' => e = .returned (.int .i64 (instErr x)) ∧ Below w.heap.size w w' := by
  have H0 := Lib.hid (PX.make w A x P p)
  have HCS : Hid (∀ W, PX w W A x P p → W.cell? ⟨w.heap.size, 0, none⟩ = some (.int .i64 x.en) ∧ W.cell? ⟨w.heap.size, 1, none⟩ = some (.int .i64 x.tm) ∧ W.cell? ⟨w.heap.size, 2, none⟩ = some (.int .i64 x.tr) ∧ W.cell? ⟨w.heap.size, 3, none⟩ = some (.int .i64 x.bm) ∧ W.cell? ⟨w.heap.size, 4, none⟩ = some (.int .i64 x.br) ∧ W.cell? ⟨w.heap.size, 5, none⟩ = some (.slice A.sa x.sats.length A.sc) ∧ W.cell? ⟨w.heap.size, 6, none⟩ = some (.slice A.ca x.cus.length A.cc) ∧ W.cell? ⟨w.heap.size, 7, none⟩ = some (.slice A.ka x.cost.length A.kc) ∧ W.cell? ⟨w.heap.size, 8, none⟩ = some (.slice A.ta x.time.length A.tc) ∧ W.cell? ⟨w.heap.size + 1, 0, none⟩ = some (.slice P.ta p.tr.length P.tc) ∧ W.cell? ⟨w.heap.size + 1, 1, none⟩ = some (.slice P.ba p.bk.length P.bc)) := Lib.hid (fun W h => h.cells)
  obtain ⟨c0, c1, c2, c3, c4, c5, c6, c7, c8, d0, d1⟩ := HCS.out _ H0.out
  have HCK := Lib.hid (check_wide A x _ ((hx.later H0.out.below).mono H0.out.below.size) hl3 hl4)
  obtain ⟨u, hu⟩ : ∃ u, instErr x = u := ⟨_, rfl⟩
  rw [hu] at HCK hne ⊢
  have hnb : (u != 0) = true := by simpa using hne
  clear hu hx
  unfold insC plC at *
  go_enter Try.func15, Try.ntmps15
  go_wp2_with (go_at_call 28; refine (HCK.out).mono ?_; rintro e w1 ⟨rfl, hb1⟩; have H1 := Lib.hid (H0.out.later hb1); clear c0 c1 c2 c3 c4 c5 c6 c7 c8 d0 d1; obtain ⟨c0, c1, c2, c3, c4, c5, c6, c7, c8, d0, d1⟩ := HCS.out _ H1.out; clear hb1)
  go_ret
  exact ⟨rfl, H1.out.below⟩
set_option maxHeartbeats 8000000 in
set_option maxRecDepth 100000 in
theorem pcheck_ok (A : InA) (x : Ins) (P : PlA) (p : Pl) (w : World) (hx : IsIns w.heap.size w A x) (hp : IsPl w.heap.size w P p) (hm : May x) :
    Calls Try.prog 15 #[.agg (insC A x), .agg (plC P p)] w fun e w' => ∃ u, e = .returned (.int .i64 u) ∧ PErr x p u ∧ Below w.heap.size w w' := by
  have H0 := Lib.hid (PX.make w A x P p)
  have HCS : Hid (∀ W, PX w W A x P p → W.cell? ⟨w.heap.size, 0, none⟩ = some (.int .i64 x.en) ∧ W.cell? ⟨w.heap.size, 1, none⟩ = some (.int .i64 x.tm) ∧ W.cell? ⟨w.heap.size, 2, none⟩ = some (.int .i64 x.tr) ∧ W.cell? ⟨w.heap.size, 3, none⟩ = some (.int .i64 x.bm) ∧ W.cell? ⟨w.heap.size, 4, none⟩ = some (.int .i64 x.br) ∧ W.cell? ⟨w.heap.size, 5, none⟩ = some (.slice A.sa x.sats.length A.sc) ∧ W.cell? ⟨w.heap.size, 6, none⟩ = some (.slice A.ca x.cus.length A.cc) ∧ W.cell? ⟨w.heap.size, 7, none⟩ = some (.slice A.ka x.cost.length A.kc) ∧ W.cell? ⟨w.heap.size, 8, none⟩ = some (.slice A.ta x.time.length A.tc) ∧ W.cell? ⟨w.heap.size + 1, 0, none⟩ = some (.slice P.ta p.tr.length P.tc) ∧ W.cell? ⟨w.heap.size + 1, 1, none⟩ = some (.slice P.ba p.bk.length P.bc)) := Lib.hid (fun W h => h.cells)
  have HCK := Lib.hid (check_wide A x _ ((hx.later H0.out.below).mono H0.out.below.size) (by have := hm.lc; have := nodes_61 hm; omega) (by have := hm.lt; have := nodes_61 hm; omega))
  rw [hm.err] at HCK
  have hz0 : ((0 : Int) != 0) = false := rfl
  obtain ⟨c0, c1, c2, c3, c4, c5, c6, c7, c8, d0, d1⟩ := HCS.out _ H0.out
  have HI := Lib.hid hx
  have HP := Lib.hid hp
  have HM := Lib.hid hm
  have hns := hm.ns
  have hnc := hm.nc
  have htm := hm.tm
  have hbm := hm.bm
  have hlt := hp.lt
  have hlb := hp.lb
  clear hx hp hm
  by_cases h1 : (p.tr.length : Int) > x.tm
  · have e1 : decide ((p.tr.length : Int) > x.tm) = true := decide_eq_true h1
    have HE : Hid (PErr x p 11) := Lib.hid (.inl ⟨.inl (by omega), rfl⟩)
    unfold insC plC at *
    go_enter Try.func15, Try.ntmps15
    go_wp2_with (go_at_call 28; refine (HCK.out).mono ?_; rintro e w1 ⟨rfl, hb1⟩; have H1 := Lib.hid (H0.out.later hb1); clear c0 c1 c2 c3 c4 c5 c6 c7 c8 d0 d1; obtain ⟨c0, c1, c2, c3, c4, c5, c6, c7, c8, d0, d1⟩ := HCS.out _ H1.out; clear hb1)
    go_ret
    exact ⟨_, rfl, HE.out, H1.out.below⟩
  have e1 : decide ((p.tr.length : Int) > x.tm) = false := decide_eq_false h1
  by_cases h2 : (p.bk.length : Int) > x.bm
  · have e2 : decide ((p.bk.length : Int) > x.bm) = true := decide_eq_true h2
    have HE : Hid (PErr x p 11) := Lib.hid (.inl ⟨.inr (by omega), rfl⟩)
    unfold insC plC at *
    go_enter Try.func15, Try.ntmps15
    go_wp2_with (go_at_call 28; refine (HCK.out).mono ?_; rintro e w1 ⟨rfl, hb1⟩; have H1 := Lib.hid (H0.out.later hb1); clear c0 c1 c2 c3 c4 c5 c6 c7 c8 d0 d1; obtain ⟨c0, c1, c2, c3, c4, c5, c6, c7, c8, d0, d1⟩ := HCS.out _ H1.out; clear hb1)
    go_ret
    exact ⟨_, rfl, HE.out, H1.out.below⟩
  have e2 : decide ((p.bk.length : Int) > x.bm) = false := decide_eq_false h2
  have HQ0 : Hid (∀ u, ((¬ (TGo x.sats.length p.tr ∧ BGo x.sats.length x.cus.length p.bk) ∧ u = 15) ∨ (TGo x.sats.length p.tr ∧ BGo x.sats.length x.cus.length p.bk ∧ ((¬ (∀ c : Nat, c < x.cus.length → (c : Int) ∈ flatB p.bk) ∧ u = 8) ∨ ((∀ c : Nat, c < x.cus.length → (c : Int) ∈ flatB p.bk) ∧ ((¬ FitsP x p ∧ u = 10) ∨ (FitsP x p ∧ ((¬ (∀ s, s < x.sats.length → leftS p.tr s = loadS x p.bk s) ∧ u = 13) ∨ ((∀ s, s < x.sats.length → leftS p.tr s = loadS x p.bk s) ∧ u = 0)))))))) → PErr x p u) := Lib.hid (fun u h => .inr ⟨by omega, by omega, h⟩)
  by_cases h3 : TGo x.sats.length p.tr
  rotate_left
  · have HTG := Lib.hid (fun W (hb : Below w.heap.size w W) => trucksGo_any A x P p false W ((HP.out.later hb).mono hb.size) (by omega) ⟨fun h => by simp at h, fun h => absurd h h3⟩)
    have HE : Hid (PErr x p 15) := Lib.hid (HQ0.out _ (.inl ⟨fun h => h3 h.1, rfl⟩))
    clear h1 h2 h3
    unfold insC plC at *
    go_enter Try.func15, Try.ntmps15
    go_wp2_with (first | (go_at_call 28; refine (HCK.out).mono ?_; rintro e w1 ⟨rfl, hb1⟩; have H1 := Lib.hid (H0.out.later hb1); clear c0 c1 c2 c3 c4 c5 c6 c7 c8 d0 d1; obtain ⟨c0, c1, c2, c3, c4, c5, c6, c7, c8, d0, d1⟩ := HCS.out _ H1.out; clear hb1) | (go_at_call 36; refine (HTG.out _ H1.out.below).mono ?_; rintro e w2 ⟨rfl, hb2⟩; have H2 := Lib.hid (H1.out.later hb2); clear c0 c1 c2 c3 c4 c5 c6 c7 c8 d0 d1; obtain ⟨c0, c1, c2, c3, c4, c5, c6, c7, c8, d0, d1⟩ := HCS.out _ H2.out; clear hb2))
    go_ret
    exact ⟨_, rfl, HE.out, H2.out.below⟩
  have HTG := Lib.hid (fun W (hb : Below w.heap.size w W) => trucksGo_any A x P p true W ((HP.out.later hb).mono hb.size) (by omega) ⟨fun _ => h3, fun _ => rfl⟩)
  by_cases h4 : BGo x.sats.length x.cus.length p.bk
  rotate_left
  · have HBG := Lib.hid (fun W (hb : Below w.heap.size w W) => bikesGo_any A x P p false W ((HP.out.later hb).mono hb.size) (by omega) (by omega) ⟨fun h => by simp at h, fun h => absurd h h4⟩)
    have HE : Hid (PErr x p 15) := Lib.hid (HQ0.out _ (.inl ⟨fun h => h4 h.2, rfl⟩))
    clear h1 h2 h3 h4
    unfold insC plC at *
    go_enter Try.func15, Try.ntmps15
    go_wp2_with (first | (go_at_call 28; refine (HCK.out).mono ?_; rintro e w1 ⟨rfl, hb1⟩; have H1 := Lib.hid (H0.out.later hb1); clear c0 c1 c2 c3 c4 c5 c6 c7 c8 d0 d1; obtain ⟨c0, c1, c2, c3, c4, c5, c6, c7, c8, d0, d1⟩ := HCS.out _ H1.out; clear hb1) | (go_at_call 36; refine (HTG.out _ H1.out.below).mono ?_; rintro e w2 ⟨rfl, hb2⟩; have H2 := Lib.hid (H1.out.later hb2); clear c0 c1 c2 c3 c4 c5 c6 c7 c8 d0 d1; obtain ⟨c0, c1, c2, c3, c4, c5, c6, c7, c8, d0, d1⟩ := HCS.out _ H2.out; clear hb2) | (go_at_call 37; refine (HBG.out _ H2.out.below).mono ?_; rintro e w3 ⟨rfl, hb3⟩; have H3 := Lib.hid (H2.out.later hb3); clear c0 c1 c2 c3 c4 c5 c6 c7 c8 d0 d1; obtain ⟨c0, c1, c2, c3, c4, c5, c6, c7, c8, d0, d1⟩ := HCS.out _ H3.out; clear hb3))
    go_ret
    exact ⟨_, rfl, HE.out, H3.out.below⟩
  have HBG := Lib.hid (fun W (hb : Below w.heap.size w W) => bikesGo_any A x P p true W ((HP.out.later hb).mono hb.size) (by omega) (by omega) ⟨fun _ => h4, fun _ => rfl⟩)
  have HSV := Lib.hid (fun W (hb : Below w.heap.size w W) => served_any P.ba P.bc p.bk.length p.bk W ((HP.out.bk.later hb).mono hb.size) hlb)
  have HSA := Lib.hid (served_all (n := x.cus.length) (by omega) h4.flat)
  have HLN := Lib.hid (fun W => len_any (ofN (flatB p.bk)) (ofN_lt _) W)
  have hall64 := allN_len (ofN (flatB p.bk))
  obtain ⟨q, hq⟩ : ∃ q, (allN (ofN (flatB p.bk))).length = q := ⟨_, rfl⟩
  obtain ⟨z, hz⟩ : ∃ z, ofN (flatB p.bk) = z := ⟨_, rfl⟩
  rw [hq] at HSA hall64
  rw [hz] at hq HSV HLN
  rw [hq] at HLN
  have H3G := Lib.hid h3
  have H4G := Lib.hid h4
  have hn60 : p.tr.length ≤ 60 := by omega
  have hm60 : p.bk.length ≤ 60 := by omega
  clear h1 h2 h3 h4 hq hz
  unfold insC plC at *
  go_enter Try.func15, Try.ntmps15
  go_upto_region 8 with (first | (go_at_call 28; refine (HCK.out).mono ?_; rintro e w1 ⟨rfl, hb1⟩; have H1 := Lib.hid (H0.out.later hb1); clear c0 c1 c2 c3 c4 c5 c6 c7 c8 d0 d1; obtain ⟨c0, c1, c2, c3, c4, c5, c6, c7, c8, d0, d1⟩ := HCS.out _ H1.out; clear hb1) | (go_at_call 36; refine (HTG.out _ H1.out.below).mono ?_; rintro e w2 ⟨rfl, hb2⟩; have H2 := Lib.hid (H1.out.later hb2); clear c0 c1 c2 c3 c4 c5 c6 c7 c8 d0 d1; obtain ⟨c0, c1, c2, c3, c4, c5, c6, c7, c8, d0, d1⟩ := HCS.out _ H2.out; clear hb2) | (go_at_call 37; refine (HBG.out _ H2.out.below).mono ?_; rintro e w3 ⟨rfl, hb3⟩; have H3 := Lib.hid (H2.out.later hb3); clear c0 c1 c2 c3 c4 c5 c6 c7 c8 d0 d1; obtain ⟨c0, c1, c2, c3, c4, c5, c6, c7, c8, d0, d1⟩ := HCS.out _ H3.out; clear hb3))
  clear c0 c1 c2 c3 c4 c5 c6 c7 c8 d0 d1 e1 e2 hz0 HCK HTG HBG H0 H1 H2
  obtain ⟨c0, c1, c2, c3, c4, c5, c6, c7, c8, d0, d1⟩ := HCS.out _ H3.out.drew
  by_cases h5 : q < x.cus.length
  · have e5 : decide ((q : Int) < (x.cus.length : Int)) = true := decide_eq_true (by omega)
    have HE : Hid (PErr x p 8) := Lib.hid (HQ0.out _ (.inr ⟨H3G.out, H4G.out, .inl ⟨HSA.out.1 h5, rfl⟩⟩))
    go_region_held3 (fun W => W.cell? ⟨w.heap.size, 0, none⟩ = some (.int .i64 x.en) ∧ W.cell? ⟨w.heap.size, 1, none⟩ = some (.int .i64 x.tm) ∧ W.cell? ⟨w.heap.size, 2, none⟩ = some (.int .i64 x.tr) ∧ W.cell? ⟨w.heap.size, 3, none⟩ = some (.int .i64 x.bm) ∧ W.cell? ⟨w.heap.size, 4, none⟩ = some (.int .i64 x.br) ∧ W.cell? ⟨w.heap.size, 5, none⟩ = some (.slice A.sa x.sats.length A.sc) ∧ W.cell? ⟨w.heap.size, 6, none⟩ = some (.slice A.ca x.cus.length A.cc) ∧ W.cell? ⟨w.heap.size, 7, none⟩ = some (.slice A.ka x.cost.length A.kc) ∧ W.cell? ⟨w.heap.size, 8, none⟩ = some (.slice A.ta x.time.length A.tc) ∧ W.cell? ⟨w.heap.size + 1, 0, none⟩ = some (.slice P.ta p.tr.length P.tc) ∧ W.cell? ⟨w.heap.size + 1, 1, none⟩ = some (.slice P.ba p.bk.length P.bc))
      (first | assumption | exact HCS.out _ H3.out.drew | exact HCS.out _ H4.out)
      (first | (go_at_call 38; refine (HSV.out _ H3.out.drew.below).mono ?_; rintro e w4 ⟨rfl, hb4⟩; have H4 := Lib.hid (H3.out.drew.later hb4); clear hb4) | (go_at_call 39; refine (HLN.out _).mono ?_; rintro e w5 ⟨rfl, rfl⟩))
    clear c0 c1 c2 c3 c4 c5 c6 c7 c8 d0 d1
    go_wp2_with fail
    go_ret
    exact ⟨_, rfl, HE.out, H4.out.below⟩
  have e5 : decide ((q : Int) < (x.cus.length : Int)) = false := decide_eq_false (by omega)
  have HALL : Hid (∀ c : Nat, c < x.cus.length → (c : Int) ∈ flatB p.bk) := Lib.hid (Classical.byContradiction (fun h => h5 (HSA.out.2 h)))
  go_region_held3 (fun W => W.cell? ⟨w.heap.size, 0, none⟩ = some (.int .i64 x.en) ∧ W.cell? ⟨w.heap.size, 1, none⟩ = some (.int .i64 x.tm) ∧ W.cell? ⟨w.heap.size, 2, none⟩ = some (.int .i64 x.tr) ∧ W.cell? ⟨w.heap.size, 3, none⟩ = some (.int .i64 x.bm) ∧ W.cell? ⟨w.heap.size, 4, none⟩ = some (.int .i64 x.br) ∧ W.cell? ⟨w.heap.size, 5, none⟩ = some (.slice A.sa x.sats.length A.sc) ∧ W.cell? ⟨w.heap.size, 6, none⟩ = some (.slice A.ca x.cus.length A.cc) ∧ W.cell? ⟨w.heap.size, 7, none⟩ = some (.slice A.ka x.cost.length A.kc) ∧ W.cell? ⟨w.heap.size, 8, none⟩ = some (.slice A.ta x.time.length A.tc) ∧ W.cell? ⟨w.heap.size + 1, 0, none⟩ = some (.slice P.ta p.tr.length P.tc) ∧ W.cell? ⟨w.heap.size + 1, 1, none⟩ = some (.slice P.ba p.bk.length P.bc))
    (first | assumption | exact HCS.out _ H3.out.drew | exact HCS.out _ H4.out)
    (first | (go_at_call 38; refine (HSV.out _ H3.out.drew.below).mono ?_; rintro e w4 ⟨rfl, hb4⟩; have H4 := Lib.hid (H3.out.drew.later hb4); clear hb4) | (go_at_call 39; refine (HLN.out _).mono ?_; rintro e w5 ⟨rfl, rfl⟩))
  clear c0 c1 c2 c3 c4 c5 c6 c7 c8 d0 d1 e5 h5 HSV HSA HLN H3
  obtain ⟨c0, c1, c2, c3, c4, c5, c6, c7, c8, d0, d1⟩ := HCS.out _ H4.out
  by_cases h6 : FitsP x p
  rotate_left
  · have HFT := Lib.hid (fun W (hb : Below w.heap.size w W) => fits_any A x P p false W ((HI.out.later hb).mono hb.size) ((HP.out.later hb).mono hb.size) HM.out H3G.out (fun b hb => by have := H4G.out.le b hb; omega) (by omega) (by omega) ⟨fun h => by simp at h, fun h => absurd h h6⟩)
    have HE : Hid (PErr x p 10) := Lib.hid (HQ0.out _ (.inr ⟨H3G.out, H4G.out, .inr ⟨HALL.out, .inl ⟨h6, rfl⟩⟩⟩))
    clear h6
    unfold insC plC at HFT
    go_wp2_with (go_at_call 40; refine (HFT.out _ H4.out.below).mono ?_; rintro e w6 ⟨rfl, hb6⟩; have H5 := Lib.hid (H4.out.later hb6); clear c0 c1 c2 c3 c4 c5 c6 c7 c8 d0 d1; obtain ⟨c0, c1, c2, c3, c4, c5, c6, c7, c8, d0, d1⟩ := HCS.out _ H5.out; clear hb6)
    go_ret
    exact ⟨_, rfl, HE.out, H5.out.below⟩
  have HFT := Lib.hid (fun W (hb : Below w.heap.size w W) => fits_any A x P p true W ((HI.out.later hb).mono hb.size) ((HP.out.later hb).mono hb.size) HM.out H3G.out (fun b hb => by have := H4G.out.le b hb; omega) (by omega) (by omega) ⟨fun _ => h6, fun _ => rfl⟩)
  have H6G := Lib.hid h6
  have HLF := Lib.hid (fun W (hb : Below w.heap.size w W) => left_any A x P p W ((HP.out.later hb).mono hb.size) HM.out H3G.out (by omega))
  have HLD := Lib.hid (fun W (hb : Below w.heap.size w W) => loads_any A x P.ba P.bc p.bk.length p.bk W ((HI.out.later hb).mono hb.size) HM.out ((HP.out.bk.later hb).mono hb.size) (by omega) (fun b hb => by have := H4G.out.le b hb; omega))
  clear h6
  unfold insC at HLD
  unfold insC plC at HFT HLF
  go_upto_region 12 with (go_at_call 40; refine (HFT.out _ H4.out.below).mono ?_; rintro e w6 ⟨rfl, hb6⟩; have H5 := Lib.hid (H4.out.later hb6); clear c0 c1 c2 c3 c4 c5 c6 c7 c8 d0 d1; obtain ⟨c0, c1, c2, c3, c4, c5, c6, c7, c8, d0, d1⟩ := HCS.out _ H5.out; clear hb6)
  clear c0 c1 c2 c3 c4 c5 c6 c7 c8 d0 d1 H4 HFT
  obtain ⟨c0, c1, c2, c3, c4, c5, c6, c7, c8, d0, d1⟩ := HCS.out _ H5.out.drew
  by_cases h7 : ∀ s, s < x.sats.length → leftS p.tr s = loadS x p.bk s
  · have HE : Hid (PErr x p 0) := Lib.hid (HQ0.out _ (.inr ⟨H3G.out, H4G.out, .inr ⟨HALL.out, .inr ⟨H6G.out, .inr ⟨h7, rfl⟩⟩⟩⟩))
    have HD : Hid (decide ((List.range x.sats.length).map (leftS p.tr) = (List.range x.sats.length).map (loadS x p.bk)) = true) := Lib.hid (decide_eq_true (List.map_congr_left (fun s hs => h7 s (List.mem_range.1 hs))))
    clear h7
    go_region_held3 (fun W => W.cell? ⟨w.heap.size, 0, none⟩ = some (.int .i64 x.en) ∧ W.cell? ⟨w.heap.size, 1, none⟩ = some (.int .i64 x.tm) ∧ W.cell? ⟨w.heap.size, 2, none⟩ = some (.int .i64 x.tr) ∧ W.cell? ⟨w.heap.size, 3, none⟩ = some (.int .i64 x.bm) ∧ W.cell? ⟨w.heap.size, 4, none⟩ = some (.int .i64 x.br) ∧ W.cell? ⟨w.heap.size, 5, none⟩ = some (.slice A.sa x.sats.length A.sc) ∧ W.cell? ⟨w.heap.size, 6, none⟩ = some (.slice A.ca x.cus.length A.cc) ∧ W.cell? ⟨w.heap.size, 7, none⟩ = some (.slice A.ka x.cost.length A.kc) ∧ W.cell? ⟨w.heap.size, 8, none⟩ = some (.slice A.ta x.time.length A.tc) ∧ W.cell? ⟨w.heap.size + 1, 0, none⟩ = some (.slice P.ta p.tr.length P.tc) ∧ W.cell? ⟨w.heap.size + 1, 1, none⟩ = some (.slice P.ba p.bk.length P.bc))
      (first | assumption | exact HCS.out _ H5.out.drew | exact HCS.out _ H6.out | exact HCS.out _ H7.out | exact HCS.out _ H8.out)
      (first | (go_at_call 41; refine (HLF.out _ H5.out.drew.below).mono ?_; rintro e w7 ⟨gl, rfl, hgl, hrl, hb7⟩; have H6 := Lib.hid (H5.out.drew.later hb7); have HR6 := Lib.hid hrl; clear hb7 hrl) | (go_at_call 24; refine (HLD.out _ H6.out.below).mono ?_; rintro e w8 ⟨gm, rfl, hgm, hrm, hb8⟩; have H7 := Lib.hid (H6.out.later hb8); have HR7 := Lib.hid (HR6.out.later hb8); have HR8 := Lib.hid hrm; clear hb8 hrm) | (go_at_call 23; refine (eq64_any _ HR7.out.nums HR8.out.nums (by omega)).mono ?_; rw [HD.out]; rintro e w9 ⟨rfl, m9, rfl⟩; have H8 := Lib.hid (H7.out.later (below_drewN (Below.refl _ _) m9))))
    clear c0 c1 c2 c3 c4 c5 c6 c7 c8 d0 d1
    go_wp2_with fail
    go_ret
    exact ⟨_, rfl, HE.out, H8.out.below⟩
  · have HE : Hid (PErr x p 13) := Lib.hid (HQ0.out _ (.inr ⟨H3G.out, H4G.out, .inr ⟨HALL.out, .inr ⟨H6G.out, .inl ⟨h7, rfl⟩⟩⟩⟩))
    have HD : Hid (decide ((List.range x.sats.length).map (leftS p.tr) = (List.range x.sats.length).map (loadS x p.bk)) = false) := Lib.hid (decide_eq_false (fun e => h7 (fun s hs => by
      have e2 := congrArg (fun l => l[s]?) e
      simpa [hs] using e2)))
    clear h7
    go_region_held3 (fun W => W.cell? ⟨w.heap.size, 0, none⟩ = some (.int .i64 x.en) ∧ W.cell? ⟨w.heap.size, 1, none⟩ = some (.int .i64 x.tm) ∧ W.cell? ⟨w.heap.size, 2, none⟩ = some (.int .i64 x.tr) ∧ W.cell? ⟨w.heap.size, 3, none⟩ = some (.int .i64 x.bm) ∧ W.cell? ⟨w.heap.size, 4, none⟩ = some (.int .i64 x.br) ∧ W.cell? ⟨w.heap.size, 5, none⟩ = some (.slice A.sa x.sats.length A.sc) ∧ W.cell? ⟨w.heap.size, 6, none⟩ = some (.slice A.ca x.cus.length A.cc) ∧ W.cell? ⟨w.heap.size, 7, none⟩ = some (.slice A.ka x.cost.length A.kc) ∧ W.cell? ⟨w.heap.size, 8, none⟩ = some (.slice A.ta x.time.length A.tc) ∧ W.cell? ⟨w.heap.size + 1, 0, none⟩ = some (.slice P.ta p.tr.length P.tc) ∧ W.cell? ⟨w.heap.size + 1, 1, none⟩ = some (.slice P.ba p.bk.length P.bc))
      (first | assumption | exact HCS.out _ H5.out.drew | exact HCS.out _ H6.out | exact HCS.out _ H7.out | exact HCS.out _ H8.out)
      (first | (go_at_call 41; refine (HLF.out _ H5.out.drew.below).mono ?_; rintro e w7 ⟨gl, rfl, hgl, hrl, hb7⟩; have H6 := Lib.hid (H5.out.drew.later hb7); have HR6 := Lib.hid hrl; clear hb7 hrl) | (go_at_call 24; refine (HLD.out _ H6.out.below).mono ?_; rintro e w8 ⟨gm, rfl, hgm, hrm, hb8⟩; have H7 := Lib.hid (H6.out.later hb8); have HR7 := Lib.hid (HR6.out.later hb8); have HR8 := Lib.hid hrm; clear hb8 hrm) | (go_at_call 23; refine (eq64_any _ HR7.out.nums HR8.out.nums (by omega)).mono ?_; rw [HD.out]; rintro e w9 ⟨rfl, m9, rfl⟩; have H8 := Lib.hid (H7.out.later (below_drewN (Below.refl _ _) m9))))
    clear c0 c1 c2 c3 c4 c5 c6 c7 c8 d0 d1
    go_wp2_with fail
    go_ret
    exact ⟨_, rfl, HE.out, H8.out.below⟩
end Go.Proofs.Ytmnbpnjakbihdaa
