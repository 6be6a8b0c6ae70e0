/- The law on errors of package order: all cases together. -/
import Derived.Test.YtgoegkajfhhcjaaOrderErrors
namespace Go.Proofs.Ytgoegkajfhhcjaa
open Go.RowKit

variable {len cap m c N : Nat} {l : List Ar} {w : World} {n : Int} {a b : Option Addr} {xs : List Int} {o : List Nat}
theorem lateErr_len (h : (xs.length : Int) ≠ n) : lateErr n l xs = 4 := by rw [lateErr, if_pos h]
theorem lateErr_bad (h : (xs.length : Int) = n) (h2 : checkV n l ≠ 0) : lateErr n l xs = checkV n l := by rw [lateErr, if_neg (fun e => e h), if_pos h2]
theorem lateErr_out (h : (xs.length : Int) = n) (h2 : checkV n l = 0) (h3 : outB xs = true) : lateErr n l xs = 2 := by rw [lateErr, if_neg (fun e => e h), if_neg (fun e => e h2), if_pos (outB_true.1 h3)]
theorem lateErr_cyc (h : (xs.length : Int) = n) (h2 : checkV n l = 0) (h3 : outB xs = false) (h4 : Stuck l n.toNat o) : lateErr n l xs = 7 := by
  rw [lateErr, if_neg (fun e => e h), if_neg (fun e => e h2), if_neg (fun e => by rw [outB_true.2 e] at h3; cases h3), if_pos ⟨o, h4⟩]
theorem lateErr_ok (h : (xs.length : Int) = n) (h2 : checkV n l = 0) (h3 : outB xs = false) (h4 : Whole l n.toNat o) : lateErr n l xs = 0 := by
  rw [lateErr, if_neg (fun e => e h), if_neg (fun e => e h2), if_neg (fun e => by rw [outB_true.2 e] at h3; cases h3), if_neg (fun ⟨o2, e⟩ => e.not_whole h4)]

set_option maxHeartbeats 2000000 in
set_option maxRecDepth 100000 in
theorem orderErrors_walk (P : OrderSpec) (hawake : ∀ w, Calls Try.prog 8 #[] w fun e w' => e = .returned (.bool true) ∧ Below w.heap.size w w')
    (n : Int) (a : Option Addr) (cap : Nat) (b : Option Addr) (c : Nat) (w : World) (hbig : len ≤ maxLen) (hl : IsArcs w.heap.size w a len l) (hbm : m ≤ maxLen) (hi : IsInts w.heap.size w b m xs) :
    Calls Try.prog 7 #[.agg #[.int .i64 n, .slice a len cap], .slice b m c] w fun e w' => e = .returned (.bool true) ∧ Below w.heap.size w w' := by
  unfold maxLen at hbig hbm
  have HG := Lib.hid (Box.make (Below.refl _ w) n a len cap)
  by_cases h1 : (40 : Int) < (len : Int)
  · clear hl hi
    go_enter Try.func7, Try.ntmps7
    go_wp2_with (go_at_call 8; refine (hawake _).mono ?_; rintro e w1 ⟨rfl, hb1⟩; have HG1 := Lib.hid (HG.out.later hb1); have x0 := HG1.out.c0; have x1 := HG1.out.c1; clear hb1)
    go_ret
    exact ⟨rfl, HG1.out.below⟩
  · by_cases h2 : (40 : Int) < (m : Int)
    · clear hl hi
      go_enter Try.func7, Try.ntmps7
      go_wp2_with (go_at_call 8; refine (hawake _).mono ?_; rintro e w1 ⟨rfl, hb1⟩; have HG1 := Lib.hid (HG.out.later hb1); have x0 := HG1.out.c0; have x1 := HG1.out.c1; clear hb1)
      go_ret
      exact ⟨rfl, HG1.out.below⟩
    · by_cases h3 : 30 < n ∧ n ≤ 1000
      · obtain ⟨h3, h4⟩ := h3
        clear hl hi
        go_enter Try.func7, Try.ntmps7
        go_wp2_with (go_at_call 8; refine (hawake _).mono ?_; rintro e w1 ⟨rfl, hb1⟩; have HG1 := Lib.hid (HG.out.later hb1); have x0 := HG1.out.c0; have x1 := HG1.out.c1; clear hb1)
        go_ret
        exact ⟨rfl, HG1.out.below⟩
      · have hxl : (xs.length : Int) = (m : Int) := by rw [hi.1]
        have h30 : decide (30 < n) = false ∨ (decide (30 < n) = true ∧ decide (n ≤ 1000) = false ∧ checkV n l ≠ 0) := by
          by_cases q : 30 < n
          · exact .inr ⟨by simpa using q, by simp; omega, by rw [checkV_size (by omega)]; omega⟩
          · exact .inl (by simpa using q)
        have bad : lateErr n l xs ≠ 0 → ∀ W, IsArcs W.heap.size W a len l → IsInts W.heap.size W b m xs → Calls Try.prog 16 #[.agg #[.int .i64 n, .slice a len cap], .slice b m c] W fun e w' => Below W.heap.size W w' ∧ ∃ a1 c1, e = .returned (.tuple #[.slice a1 0 c1, .int .i64 (lateErr n l xs)]) :=
          fun h W hA hI => P.late_bad n len cap l a m c xs b W h hA hI (by omega)
        by_cases hc : checkV n l = 0
        · obtain ⟨⟨n0, n1, _⟩, _⟩ := checkV_zero.1 hc
          obtain ⟨N, rfl⟩ : ∃ N : Nat, n = (N : Int) := ⟨n.toNat, by omega⟩
          have hcy : checkV (N : Int) l ≠ 0 → ∀ W, IsArcs W.heap.size W a len l → Calls Try.prog 13 #[.agg #[.int .i64 (N : Int), .slice a len cap]] W fun e w' => Below W.heap.size W w' ∧ ∃ a1 c1, e = .returned (.slice a1 0 c1) := fun h => absurd hc h
          obtain ⟨o, ho⟩ := whole_or_stuck l N
          rcases ho with ho | ho
          · have hso : ∀ W, IsArcs W.heap.size W a len l → Calls Try.prog 10 #[.agg #[.int .i64 (N : Int), .slice a len cap]] W fun e w' => Below W.heap.size W w' ∧ ∃ a1 m1 c1, e = .returned (.tuple #[.slice a1 m1 c1, .bool true]) :=
              fun W hA => (P.sort_whole hc ho cap W hA).mono fun e w' ⟨hb, va, vc, h, _⟩ => ⟨hb, va, _, vc, h⟩
            by_cases hmn : (m : Int) = (N : Int)
            · have hmn2 : (xs.length : Int) = (N : Int) := by omega
              cases hob : outB xs with
              | true =>
                have hE := lateErr_out hmn2 hc hob
                exact orderErrors_core hawake (by omega) (by omega) h30 rfl hob (bad (by rw [hE]; omega)) hso hcy (.inr (.inr (.inr (.inl ⟨hmn, hc, rfl, hE, rfl⟩)))) w hl hi
              | false =>
                have hE := lateErr_ok (o := o) hmn2 hc hob (by simpa using ho)
                have hmN : m = N := by omega
                subst hmN
                refine orderErrors_core (E := 0) (L := m) hawake (by omega) (by omega) h30 rfl hob (fun W hA hI => (P.late_ok m len cap l a c xs b W hE hA hI).mono fun e w' ⟨hb, v, got, h, hr, _⟩ => ⟨hb, ?_⟩) hso hcy (.inr (.inr (.inr (.inr (.inr ⟨rfl, hc, rfl, rfl, rfl, rfl⟩))))) w hl hi
                obtain ⟨va, vc, hv⟩ := owns_shape hr
                subst hv
                exact ⟨va, vc, h⟩
            · have hE := lateErr_len (n := (N : Int)) (l := l) (xs := xs) (by omega)
              exact orderErrors_core hawake (by omega) (by omega) h30 rfl rfl (bad (by rw [hE]; omega)) hso hcy (.inr (.inl ⟨hmn, hc, hE, rfl⟩)) w hl hi
          · have hso : ∀ W, IsArcs W.heap.size W a len l → Calls Try.prog 10 #[.agg #[.int .i64 (N : Int), .slice a len cap]] W fun e w' => Below W.heap.size W w' ∧ ∃ a1 m1 c1, e = .returned (.tuple #[.slice a1 m1 c1, .bool false]) :=
              fun W hA => (P.sort_stuck hc ho cap W hA).mono fun e w' ⟨hb, va, vc, h⟩ => ⟨hb, va, 0, vc, h⟩
            by_cases hmn : (m : Int) = (N : Int)
            · have hmn2 : (xs.length : Int) = (N : Int) := by omega
              cases hob : outB xs with
              | true =>
                have hE := lateErr_out hmn2 hc hob
                exact orderErrors_core hawake (by omega) (by omega) h30 rfl hob (bad (by rw [hE]; omega)) hso hcy (.inr (.inr (.inr (.inl ⟨hmn, hc, rfl, hE, rfl⟩)))) w hl hi
              | false =>
                have hE := lateErr_cyc (o := o) hmn2 hc hob (by simpa using ho)
                exact orderErrors_core hawake (by omega) (by omega) h30 rfl hob (bad (by rw [hE]; omega)) hso hcy (.inr (.inr (.inr (.inr (.inl ⟨hmn, hc, rfl, rfl, hE, rfl⟩))))) w hl hi
            · have hE := lateErr_len (n := (N : Int)) (l := l) (xs := xs) (by omega)
              exact orderErrors_core hawake (by omega) (by omega) h30 rfl rfl (bad (by rw [hE]; omega)) hso hcy (.inr (.inl ⟨hmn, hc, hE, rfl⟩)) w hl hi
        · have hso : ∀ W, IsArcs W.heap.size W a len l → Calls Try.prog 10 #[.agg #[.int .i64 n, .slice a len cap]] W fun e w' => Below W.heap.size W w' ∧ ∃ a1 m1 c1, e = .returned (.tuple #[.slice a1 m1 c1, .bool false]) :=
            fun W hA => (P.sort_bad n len cap l a W hc hA).mono fun e w' ⟨hb, va, vc, h⟩ => ⟨hb, va, 0, vc, h⟩
          have hcy : checkV n l ≠ 0 → ∀ W, IsArcs W.heap.size W a len l → Calls Try.prog 13 #[.agg #[.int .i64 n, .slice a len cap]] W fun e w' => Below W.heap.size W w' ∧ ∃ a1 c1, e = .returned (.slice a1 0 c1) := fun h W hA => P.cycle_bad n len cap l a W h hA
          by_cases hmn : (m : Int) = n
          · have hE := lateErr_bad (n := n) (l := l) (xs := xs) (by omega) hc
            exact orderErrors_core hawake (by omega) (by omega) h30 rfl rfl (bad (by rw [hE]; exact hc)) hso hcy (.inr (.inr (.inl ⟨hmn, hc, rfl, hE, rfl⟩))) w hl hi
          · have hE := lateErr_len (n := n) (l := l) (xs := xs) (by omega)
            exact orderErrors_core hawake (by omega) (by omega) h30 rfl rfl (bad (by rw [hE]; omega)) hso hcy (.inl ⟨hmn, hc, rfl, hE, rfl⟩) w hl hi
end Go.Proofs.Ytgoegkajfhhcjaa
