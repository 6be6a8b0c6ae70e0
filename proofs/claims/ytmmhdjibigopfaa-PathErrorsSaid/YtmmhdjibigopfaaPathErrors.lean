/- The walk of the law on errors of package path. -/
import Derived.Test.YtmmhdjibigopfaaPathSpec
import Derived.Deep.RegionHeld3
namespace Go.Proofs.Ytmmhdjibigopfaa
open Go.RowKit

variable {len cap g g1 g2 : Nat} {l : List Ar} {w wr w2 : World} {n s : Int} {a a1 a2 a3 a4 : Option Addr} {c1 c2 c3 c4 : Nat}
/-- The graph's box; the two trees'. -/
structure ErrW (w wr : World) (g g1 g2 : Nat) (n : Int) (a : Option Addr) (len cap : Nat) (a1 : Option Addr) (c1 : Nat) (a2 : Option Addr) (c2 : Nat) (a3 : Option Addr) (c3 : Nat) (a4 : Option Addr) (c4 : Nat) : Prop where
  box : Box w wr g n a len cap
  one : wr.heap[g1]? = some (.cells #[.slice a1 0 c1, .slice a2 0 c2] 31 (0, 0))
  two : wr.heap[g2]? = some (.cells #[.slice a3 0 c3, .slice a4 0 c4] 31 (0, 0))
theorem ErrW.later (h : ErrW w wr g g1 g2 n a len cap a1 c1 a2 c2 a3 c3 a4 c4) (hb : Below wr.heap.size wr w2) : ErrW w w2 g g1 g2 n a len cap a1 c1 a2 c2 a3 c3 a4 c4 :=
  ⟨h.box.later hb, (hb.block g1 (Array.getElem?_eq_some_iff.1 h.one).1).trans h.one, (hb.block g2 (Array.getElem?_eq_some_iff.1 h.two).1).trans h.two⟩
/-- The cells that the law's last region reads. -/
def ErrS (g g1 g2 : Nat) (n : Int) (a : Option Addr) (len cap : Nat) (a1 : Option Addr) (c1 : Nat) (a2 : Option Addr) (c2 : Nat) (a3 : Option Addr) (c3 : Nat) (a4 : Option Addr) (c4 : Nat) (W : World) : Prop :=
  W.cell? ⟨g1, 0, none⟩ = some (.slice a1 0 c1) ∧ W.cell? ⟨g1, 1, none⟩ = some (.slice a2 0 c2) ∧ W.cell? ⟨g2, 0, none⟩ = some (.slice a3 0 c3) ∧ W.cell? ⟨g2, 1, none⟩ = some (.slice a4 0 c4) ∧
  W.cell? ⟨g, 0, none⟩ = some (.int .i64 n) ∧ W.cell? ⟨g, 1, none⟩ = some (.slice a len cap)
theorem ErrW.cells (h : ErrW w wr g g1 g2 n a len cap a1 c1 a2 c2 a3 c3 a4 c4) : ErrS g g1 g2 n a len cap a1 c1 a2 c2 a3 c3 a4 c4 wr :=
  ⟨by simp [World.cell?, h.one], by simp [World.cell?, h.one], by simp [World.cell?, h.two], by simp [World.cell?, h.two], h.box.c0, h.box.c1⟩
theorem ErrW.make (hb : Box w wr g n a len cap) (h1 : wr.heap[g1]? = some (.cells #[.slice a1 0 c1, .slice a2 0 c2] 31 (0, 0))) (a3 : Option Addr) (c3 : Nat) (a4 : Option Addr) (c4 : Nat) :
    ErrW w (wr.alloc (.cells #[.slice a3 0 c3, .slice a4 0 c4] 31)) g g1 wr.heap.size n a len cap a1 c1 a2 c2 a3 c3 a4 c4 :=
  ⟨hb.alloc _, (Below.heap_alloc _ _ _ (Array.getElem?_eq_some_iff.1 h1).1).trans h1, heap_alloc_new _ _⟩

set_option maxHeartbeats 4000000 in
set_option maxRecDepth 100000 in
theorem pathErrors_walk (P : PathSpec) (hawake : ∀ w, Calls Try.prog 7 #[] w fun e w' => e = .returned (.bool true) ∧ Below w.heap.size w w')
    (n : Int) (a : Option Addr) (cap : Nat) (s : Int) (w : World) (hbig : len ≤ maxLen) (hl : IsArcs w.heap.size w a len l) :
    Calls Try.prog 5 #[.agg #[.int .i64 n, .slice a len cap], .int .i64 s] w fun e w' => e = .returned (.bool true) ∧ Below w.heap.size w w' := by
  unfold maxLen at hbig
  have HG := Lib.hid (Box.make (Below.refl _ w) n a len cap)
  have HL := Lib.hid hl; clear hl
  by_cases h1 : (60 : Int) < (len : Int)
  · go_enter Try.func5, Try.ntmps5
    go_wp2_with (go_at_call 7; refine (hawake _).mono ?_; rintro e w1 ⟨rfl, hb1⟩; have HG1 := Lib.hid (HG.out.later hb1); have x0 := HG1.out.c0; have x1 := HG1.out.c1; clear hb1)
    go_ret
    exact ⟨rfl, HG1.out.below⟩
  · by_cases h2 : 30 < n ∧ n ≤ 1000
    · obtain ⟨h2, h3⟩ := h2
      go_enter Try.func5, Try.ntmps5
      go_wp2_with (go_at_call 7; refine (hawake _).mono ?_; rintro e w1 ⟨rfl, hb1⟩; have HG1 := Lib.hid (HG.out.later hb1); have x0 := HG1.out.c0; have x1 := HG1.out.c1; clear hb1)
      go_ret
      exact ⟨rfl, HG1.out.below⟩
    · have h3 : decide (30 < n) = false ∨ (decide (30 < n) = true ∧ decide (n ≤ 1000) = false) := by
        by_cases q : 30 < n
        · exact .inr ⟨by simpa using q, by simp; omega⟩
        · exact .inl (by simpa using q)
      rcases h3 with h3 | ⟨h3, h4⟩
      · by_cases hc : checkV n l = 0
        · have HC := Lib.hid hc
          by_cases hs1 : s < 0
          · have HEV : Hid (fromErr n l s = 2) := Lib.hid (by rw [fromErr, if_pos hc, if_neg (by omega)])
            have HE : Hid (fromErr n l s ≠ 0) := Lib.hid (by rw [HEV.out]; omega)
            clear hc
            go_enter Try.func5, Try.ntmps5
            go_wp2_with (first
              | (go_at_call 7; refine (hawake _).mono ?_; rintro e w1 ⟨rfl, hb1⟩; have HG1 := Lib.hid (HG.out.later hb1); have x0 := HG1.out.c0; have x1 := HG1.out.c1; clear hb1)
              | (go_at_call 15; refine (check_any n cap a _ (HG1.out.arcsHere HL.out)).mono ?_; rw [HC.out]; rintro e w2 ⟨rfl, hb2⟩; have HG2 := Lib.hid (HG1.out.later hb2); have y0 := HG2.out.c0; have y1 := HG2.out.c1; clear hb2)
              | (go_at_call 9; refine (P.from_bad n s len cap l a _ HE.out (HG2.out.arcsHere HL.out)).mono ?_; rw [HEV.out]; rintro e w3 ⟨hb3, a1, c1, a2, c2, rfl⟩; have HG3 := Lib.hid ((HG2.out.later hb3).alloc (.cells #[.slice a1 0 c1, .slice a2 0 c2] 31)); have HT3 := Lib.hid (heap_alloc_new w3 (.cells #[.slice a1 0 c1, .slice a2 0 c2] 31)); have z0 := HG3.out.c0; have z1 := HG3.out.c1; clear hb3)
              | (go_at_call 16; refine (P.near_bad n s len cap l a _ HE.out (HG3.out.arcsHere HL.out)).mono ?_; rw [HEV.out]; rintro e w5 ⟨hb5, a3, c3, a4, c4, rfl⟩; have HW5 := Lib.hid (ErrW.make (HG3.out.later hb5) ((hb5.block _ (by simp)).trans HT3.out) a3 c3 a4 c4); clear hb5))
            obtain ⟨k0, k1, k2, k3, k4, k5⟩ := HW5.out.cells
            go_region_held3 (fun W => W.cell? ⟨w3.heap.size, 0, none⟩ = some (.slice a1 0 c1) ∧ W.cell? ⟨w3.heap.size, 1, none⟩ = some (.slice a2 0 c2) ∧ W.cell? ⟨w5.heap.size, 0, none⟩ = some (.slice a3 0 c3) ∧ W.cell? ⟨w5.heap.size, 1, none⟩ = some (.slice a4 0 c4) ∧ W.cell? ⟨w.heap.size, 0, none⟩ = some (.int .i64 n) ∧ W.cell? ⟨w.heap.size, 1, none⟩ = some (.slice a len cap))
              (first | assumption | exact HW5.out.cells | exact HW6.out.cells)
              (first | (go_at_call 12; refine (P.cycle_bad n s len cap l a _ HE.out ((HW5.out.later (Below.refl _ _).drew).box.arcsHere HL.out)).mono ?_; rintro e w6 ⟨hb6, a5, c5, rfl⟩; have HW6 := Lib.hid ((HW5.out.later (Below.refl _ _).drew).later hb6); clear hb6))
            all_goals
              go_wp2_with fail
              go_ret
              exact ⟨rfl, HW6.out.box.below⟩
          · by_cases hs2 : s < n
            · have hs3 : decide (s < n) = true := by simpa using hs2
              clear hc
              go_enter Try.func5, Try.ntmps5
              go_wp2_with (first
                | (go_at_call 7; refine (hawake _).mono ?_; rintro e w1 ⟨rfl, hb1⟩; have HG1 := Lib.hid (HG.out.later hb1); have x0 := HG1.out.c0; have x1 := HG1.out.c1; clear hb1)
                | (go_at_call 15; refine (check_any n cap a _ (HG1.out.arcsHere HL.out)).mono ?_; rw [HC.out]; rintro e w2 ⟨rfl, hb2⟩; have HG2 := Lib.hid (HG1.out.later hb2); have y0 := HG2.out.c0; have y1 := HG2.out.c1; clear hb2))
              go_ret
              exact ⟨rfl, HG2.out.below⟩
            · have hs3 : decide (s < n) = false := by simpa using hs2
              have HEV : Hid (fromErr n l s = 2) := Lib.hid (by rw [fromErr, if_pos hc, if_neg (by omega)])
              have HE : Hid (fromErr n l s ≠ 0) := Lib.hid (by rw [HEV.out]; omega)
              clear hc
              go_enter Try.func5, Try.ntmps5
              go_wp2_with (first
                | (go_at_call 7; refine (hawake _).mono ?_; rintro e w1 ⟨rfl, hb1⟩; have HG1 := Lib.hid (HG.out.later hb1); have x0 := HG1.out.c0; have x1 := HG1.out.c1; clear hb1)
                | (go_at_call 15; refine (check_any n cap a _ (HG1.out.arcsHere HL.out)).mono ?_; rw [HC.out]; rintro e w2 ⟨rfl, hb2⟩; have HG2 := Lib.hid (HG1.out.later hb2); have y0 := HG2.out.c0; have y1 := HG2.out.c1; clear hb2)
                | (go_at_call 9; refine (P.from_bad n s len cap l a _ HE.out (HG2.out.arcsHere HL.out)).mono ?_; rw [HEV.out]; rintro e w3 ⟨hb3, a1, c1, a2, c2, rfl⟩; have HG3 := Lib.hid ((HG2.out.later hb3).alloc (.cells #[.slice a1 0 c1, .slice a2 0 c2] 31)); have HT3 := Lib.hid (heap_alloc_new w3 (.cells #[.slice a1 0 c1, .slice a2 0 c2] 31)); have z0 := HG3.out.c0; have z1 := HG3.out.c1; clear hb3)
                | (go_at_call 16; refine (P.near_bad n s len cap l a _ HE.out (HG3.out.arcsHere HL.out)).mono ?_; rw [HEV.out]; rintro e w5 ⟨hb5, a3, c3, a4, c4, rfl⟩; have HW5 := Lib.hid (ErrW.make (HG3.out.later hb5) ((hb5.block _ (by simp)).trans HT3.out) a3 c3 a4 c4); clear hb5))
              obtain ⟨k0, k1, k2, k3, k4, k5⟩ := HW5.out.cells
              go_region_held3 (fun W => W.cell? ⟨w3.heap.size, 0, none⟩ = some (.slice a1 0 c1) ∧ W.cell? ⟨w3.heap.size, 1, none⟩ = some (.slice a2 0 c2) ∧ W.cell? ⟨w5.heap.size, 0, none⟩ = some (.slice a3 0 c3) ∧ W.cell? ⟨w5.heap.size, 1, none⟩ = some (.slice a4 0 c4) ∧ W.cell? ⟨w.heap.size, 0, none⟩ = some (.int .i64 n) ∧ W.cell? ⟨w.heap.size, 1, none⟩ = some (.slice a len cap))
                (first | assumption | exact HW5.out.cells | exact HW6.out.cells)
                (first | (go_at_call 12; refine (P.cycle_bad n s len cap l a _ HE.out ((HW5.out.later (Below.refl _ _).drew).box.arcsHere HL.out)).mono ?_; rintro e w6 ⟨hb6, a5, c5, rfl⟩; have HW6 := Lib.hid ((HW5.out.later (Below.refl _ _).drew).later hb6); clear hb6))
              all_goals
                go_wp2_with fail
                go_ret
                exact ⟨rfl, HW6.out.box.below⟩
        · have hc2 : (checkV n l == 0) = false := by simpa using hc
          have HEV : Hid (fromErr n l s = checkV n l) := Lib.hid (by rw [fromErr, if_neg hc])
          have HE : Hid (fromErr n l s ≠ 0) := Lib.hid (by rw [HEV.out]; exact hc)
          clear hc
          obtain ⟨cv, hcv⟩ : ∃ cv, checkV n l = cv := ⟨_, rfl⟩
          have HC := Lib.hid hcv
          rw [hcv] at hc2 HEV
          clear hcv
          go_enter Try.func5, Try.ntmps5
          go_wp2_with (first
            | (go_at_call 7; refine (hawake _).mono ?_; rintro e w1 ⟨rfl, hb1⟩; have HG1 := Lib.hid (HG.out.later hb1); have x0 := HG1.out.c0; have x1 := HG1.out.c1; clear hb1)
            | (go_at_call 15; refine (check_any n cap a _ (HG1.out.arcsHere HL.out)).mono ?_; rw [HC.out]; rintro e w2 ⟨rfl, hb2⟩; have HG2 := Lib.hid (HG1.out.later hb2); have y0 := HG2.out.c0; have y1 := HG2.out.c1; clear hb2)
            | (go_at_call 9; refine (P.from_bad n s len cap l a _ HE.out (HG2.out.arcsHere HL.out)).mono ?_; rw [HEV.out]; rintro e w3 ⟨hb3, a1, c1, a2, c2, rfl⟩; have HG3 := Lib.hid ((HG2.out.later hb3).alloc (.cells #[.slice a1 0 c1, .slice a2 0 c2] 31)); have HT3 := Lib.hid (heap_alloc_new w3 (.cells #[.slice a1 0 c1, .slice a2 0 c2] 31)); have z0 := HG3.out.c0; have z1 := HG3.out.c1; clear hb3)
            | (go_at_call 16; refine (P.near_bad n s len cap l a _ HE.out (HG3.out.arcsHere HL.out)).mono ?_; rw [HEV.out]; rintro e w5 ⟨hb5, a3, c3, a4, c4, rfl⟩; have HW5 := Lib.hid (ErrW.make (HG3.out.later hb5) ((hb5.block _ (by simp)).trans HT3.out) a3 c3 a4 c4); clear hb5))
          obtain ⟨k0, k1, k2, k3, k4, k5⟩ := HW5.out.cells
          go_region_held3 (fun W => W.cell? ⟨w3.heap.size, 0, none⟩ = some (.slice a1 0 c1) ∧ W.cell? ⟨w3.heap.size, 1, none⟩ = some (.slice a2 0 c2) ∧ W.cell? ⟨w5.heap.size, 0, none⟩ = some (.slice a3 0 c3) ∧ W.cell? ⟨w5.heap.size, 1, none⟩ = some (.slice a4 0 c4) ∧ W.cell? ⟨w.heap.size, 0, none⟩ = some (.int .i64 n) ∧ W.cell? ⟨w.heap.size, 1, none⟩ = some (.slice a len cap))
            (first | assumption | exact HW5.out.cells | exact HW6.out.cells)
            (first | (go_at_call 12; refine (P.cycle_bad n s len cap l a _ HE.out ((HW5.out.later (Below.refl _ _).drew).box.arcsHere HL.out)).mono ?_; rintro e w6 ⟨hb6, a5, c5, rfl⟩; have HW6 := Lib.hid ((HW5.out.later (Below.refl _ _).drew).later hb6); clear hb6))
          all_goals
            go_wp2_with fail
            go_ret
            exact ⟨rfl, HW6.out.box.below⟩
      · by_cases hc : checkV n l = 0
        · have HC := Lib.hid hc
          by_cases hs1 : s < 0
          · have HEV : Hid (fromErr n l s = 2) := Lib.hid (by rw [fromErr, if_pos hc, if_neg (by omega)])
            have HE : Hid (fromErr n l s ≠ 0) := Lib.hid (by rw [HEV.out]; omega)
            clear hc
            go_enter Try.func5, Try.ntmps5
            go_wp2_with (first
              | (go_at_call 7; refine (hawake _).mono ?_; rintro e w1 ⟨rfl, hb1⟩; have HG1 := Lib.hid (HG.out.later hb1); have x0 := HG1.out.c0; have x1 := HG1.out.c1; clear hb1)
              | (go_at_call 15; refine (check_any n cap a _ (HG1.out.arcsHere HL.out)).mono ?_; rw [HC.out]; rintro e w2 ⟨rfl, hb2⟩; have HG2 := Lib.hid (HG1.out.later hb2); have y0 := HG2.out.c0; have y1 := HG2.out.c1; clear hb2)
              | (go_at_call 9; refine (P.from_bad n s len cap l a _ HE.out (HG2.out.arcsHere HL.out)).mono ?_; rw [HEV.out]; rintro e w3 ⟨hb3, a1, c1, a2, c2, rfl⟩; have HG3 := Lib.hid ((HG2.out.later hb3).alloc (.cells #[.slice a1 0 c1, .slice a2 0 c2] 31)); have HT3 := Lib.hid (heap_alloc_new w3 (.cells #[.slice a1 0 c1, .slice a2 0 c2] 31)); have z0 := HG3.out.c0; have z1 := HG3.out.c1; clear hb3)
              | (go_at_call 16; refine (P.near_bad n s len cap l a _ HE.out (HG3.out.arcsHere HL.out)).mono ?_; rw [HEV.out]; rintro e w5 ⟨hb5, a3, c3, a4, c4, rfl⟩; have HW5 := Lib.hid (ErrW.make (HG3.out.later hb5) ((hb5.block _ (by simp)).trans HT3.out) a3 c3 a4 c4); clear hb5))
            obtain ⟨k0, k1, k2, k3, k4, k5⟩ := HW5.out.cells
            go_region_held3 (fun W => W.cell? ⟨w3.heap.size, 0, none⟩ = some (.slice a1 0 c1) ∧ W.cell? ⟨w3.heap.size, 1, none⟩ = some (.slice a2 0 c2) ∧ W.cell? ⟨w5.heap.size, 0, none⟩ = some (.slice a3 0 c3) ∧ W.cell? ⟨w5.heap.size, 1, none⟩ = some (.slice a4 0 c4) ∧ W.cell? ⟨w.heap.size, 0, none⟩ = some (.int .i64 n) ∧ W.cell? ⟨w.heap.size, 1, none⟩ = some (.slice a len cap))
              (first | assumption | exact HW5.out.cells | exact HW6.out.cells)
              (first | (go_at_call 12; refine (P.cycle_bad n s len cap l a _ HE.out ((HW5.out.later (Below.refl _ _).drew).box.arcsHere HL.out)).mono ?_; rintro e w6 ⟨hb6, a5, c5, rfl⟩; have HW6 := Lib.hid ((HW5.out.later (Below.refl _ _).drew).later hb6); clear hb6))
            all_goals
              go_wp2_with fail
              go_ret
              exact ⟨rfl, HW6.out.box.below⟩
          · by_cases hs2 : s < n
            · have hs3 : decide (s < n) = true := by simpa using hs2
              clear hc
              go_enter Try.func5, Try.ntmps5
              go_wp2_with (first
                | (go_at_call 7; refine (hawake _).mono ?_; rintro e w1 ⟨rfl, hb1⟩; have HG1 := Lib.hid (HG.out.later hb1); have x0 := HG1.out.c0; have x1 := HG1.out.c1; clear hb1)
                | (go_at_call 15; refine (check_any n cap a _ (HG1.out.arcsHere HL.out)).mono ?_; rw [HC.out]; rintro e w2 ⟨rfl, hb2⟩; have HG2 := Lib.hid (HG1.out.later hb2); have y0 := HG2.out.c0; have y1 := HG2.out.c1; clear hb2))
              go_ret
              exact ⟨rfl, HG2.out.below⟩
            · have hs3 : decide (s < n) = false := by simpa using hs2
              have HEV : Hid (fromErr n l s = 2) := Lib.hid (by rw [fromErr, if_pos hc, if_neg (by omega)])
              have HE : Hid (fromErr n l s ≠ 0) := Lib.hid (by rw [HEV.out]; omega)
              clear hc
              go_enter Try.func5, Try.ntmps5
              go_wp2_with (first
                | (go_at_call 7; refine (hawake _).mono ?_; rintro e w1 ⟨rfl, hb1⟩; have HG1 := Lib.hid (HG.out.later hb1); have x0 := HG1.out.c0; have x1 := HG1.out.c1; clear hb1)
                | (go_at_call 15; refine (check_any n cap a _ (HG1.out.arcsHere HL.out)).mono ?_; rw [HC.out]; rintro e w2 ⟨rfl, hb2⟩; have HG2 := Lib.hid (HG1.out.later hb2); have y0 := HG2.out.c0; have y1 := HG2.out.c1; clear hb2)
                | (go_at_call 9; refine (P.from_bad n s len cap l a _ HE.out (HG2.out.arcsHere HL.out)).mono ?_; rw [HEV.out]; rintro e w3 ⟨hb3, a1, c1, a2, c2, rfl⟩; have HG3 := Lib.hid ((HG2.out.later hb3).alloc (.cells #[.slice a1 0 c1, .slice a2 0 c2] 31)); have HT3 := Lib.hid (heap_alloc_new w3 (.cells #[.slice a1 0 c1, .slice a2 0 c2] 31)); have z0 := HG3.out.c0; have z1 := HG3.out.c1; clear hb3)
                | (go_at_call 16; refine (P.near_bad n s len cap l a _ HE.out (HG3.out.arcsHere HL.out)).mono ?_; rw [HEV.out]; rintro e w5 ⟨hb5, a3, c3, a4, c4, rfl⟩; have HW5 := Lib.hid (ErrW.make (HG3.out.later hb5) ((hb5.block _ (by simp)).trans HT3.out) a3 c3 a4 c4); clear hb5))
              obtain ⟨k0, k1, k2, k3, k4, k5⟩ := HW5.out.cells
              go_region_held3 (fun W => W.cell? ⟨w3.heap.size, 0, none⟩ = some (.slice a1 0 c1) ∧ W.cell? ⟨w3.heap.size, 1, none⟩ = some (.slice a2 0 c2) ∧ W.cell? ⟨w5.heap.size, 0, none⟩ = some (.slice a3 0 c3) ∧ W.cell? ⟨w5.heap.size, 1, none⟩ = some (.slice a4 0 c4) ∧ W.cell? ⟨w.heap.size, 0, none⟩ = some (.int .i64 n) ∧ W.cell? ⟨w.heap.size, 1, none⟩ = some (.slice a len cap))
                (first | assumption | exact HW5.out.cells | exact HW6.out.cells)
                (first | (go_at_call 12; refine (P.cycle_bad n s len cap l a _ HE.out ((HW5.out.later (Below.refl _ _).drew).box.arcsHere HL.out)).mono ?_; rintro e w6 ⟨hb6, a5, c5, rfl⟩; have HW6 := Lib.hid ((HW5.out.later (Below.refl _ _).drew).later hb6); clear hb6))
              all_goals
                go_wp2_with fail
                go_ret
                exact ⟨rfl, HW6.out.box.below⟩
        · have hc2 : (checkV n l == 0) = false := by simpa using hc
          have HEV : Hid (fromErr n l s = checkV n l) := Lib.hid (by rw [fromErr, if_neg hc])
          have HE : Hid (fromErr n l s ≠ 0) := Lib.hid (by rw [HEV.out]; exact hc)
          clear hc
          obtain ⟨cv, hcv⟩ : ∃ cv, checkV n l = cv := ⟨_, rfl⟩
          have HC := Lib.hid hcv
          rw [hcv] at hc2 HEV
          clear hcv
          go_enter Try.func5, Try.ntmps5
          go_wp2_with (first
            | (go_at_call 7; refine (hawake _).mono ?_; rintro e w1 ⟨rfl, hb1⟩; have HG1 := Lib.hid (HG.out.later hb1); have x0 := HG1.out.c0; have x1 := HG1.out.c1; clear hb1)
            | (go_at_call 15; refine (check_any n cap a _ (HG1.out.arcsHere HL.out)).mono ?_; rw [HC.out]; rintro e w2 ⟨rfl, hb2⟩; have HG2 := Lib.hid (HG1.out.later hb2); have y0 := HG2.out.c0; have y1 := HG2.out.c1; clear hb2)
            | (go_at_call 9; refine (P.from_bad n s len cap l a _ HE.out (HG2.out.arcsHere HL.out)).mono ?_; rw [HEV.out]; rintro e w3 ⟨hb3, a1, c1, a2, c2, rfl⟩; have HG3 := Lib.hid ((HG2.out.later hb3).alloc (.cells #[.slice a1 0 c1, .slice a2 0 c2] 31)); have HT3 := Lib.hid (heap_alloc_new w3 (.cells #[.slice a1 0 c1, .slice a2 0 c2] 31)); have z0 := HG3.out.c0; have z1 := HG3.out.c1; clear hb3)
            | (go_at_call 16; refine (P.near_bad n s len cap l a _ HE.out (HG3.out.arcsHere HL.out)).mono ?_; rw [HEV.out]; rintro e w5 ⟨hb5, a3, c3, a4, c4, rfl⟩; have HW5 := Lib.hid (ErrW.make (HG3.out.later hb5) ((hb5.block _ (by simp)).trans HT3.out) a3 c3 a4 c4); clear hb5))
          obtain ⟨k0, k1, k2, k3, k4, k5⟩ := HW5.out.cells
          go_region_held3 (fun W => W.cell? ⟨w3.heap.size, 0, none⟩ = some (.slice a1 0 c1) ∧ W.cell? ⟨w3.heap.size, 1, none⟩ = some (.slice a2 0 c2) ∧ W.cell? ⟨w5.heap.size, 0, none⟩ = some (.slice a3 0 c3) ∧ W.cell? ⟨w5.heap.size, 1, none⟩ = some (.slice a4 0 c4) ∧ W.cell? ⟨w.heap.size, 0, none⟩ = some (.int .i64 n) ∧ W.cell? ⟨w.heap.size, 1, none⟩ = some (.slice a len cap))
            (first | assumption | exact HW5.out.cells | exact HW6.out.cells)
            (first | (go_at_call 12; refine (P.cycle_bad n s len cap l a _ HE.out ((HW5.out.later (Below.refl _ _).drew).box.arcsHere HL.out)).mono ?_; rintro e w6 ⟨hb6, a5, c5, rfl⟩; have HW6 := Lib.hid ((HW5.out.later (Below.refl _ _).drew).later hb6); clear hb6))
          all_goals
            go_wp2_with fail
            go_ret
            exact ⟨rfl, HW6.out.box.below⟩
end Go.Proofs.Ytmmhdjibigopfaa
