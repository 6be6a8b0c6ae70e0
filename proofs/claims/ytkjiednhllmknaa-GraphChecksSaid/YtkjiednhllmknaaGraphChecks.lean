/- The walk of the law on Check and Has. -/
import Derived.Test.YtkjiednhllmknaaGAwake
namespace Go.Proofs.Ytkjiednhllmknaa
open Go.RowKit

variable {len : Nat} {l : List Ar}
theorem okA_bad1 {n f t c : Int} (h : f < 0 ∨ n ≤ f) : okA n (f, t, c) = false := by
  cases hb : okA n (f, t, c) with
  | false => rfl
  | true => have := okA_true.1 hb; simp only at this; omega
theorem okA_bad2 {n f t c : Int} (h : t < 0 ∨ n ≤ t) : okA n (f, t, c) = false := by
  cases hb : okA n (f, t, c) with
  | false => rfl
  | true => have := okA_true.1 hb; simp only at this; omega
theorem okA_bad3 {n f t c : Int} (h : c < -1099511627776 ∨ 1099511627776 < c) : okA n (f, t, c) = false := by
  cases hb : okA n (f, t, c) with
  | false => rfl
  | true => have := okA_true.1 hb; simp only at this; omega
/-- What the law's loop has made of it: 2, where an arc isn't right. -/
def seenV (n : Int) (l : List Ar) : Int := if l.all (okA n) then 0 else 2
theorem seenV_bad {n : Int} {k : Nat} {x : Ar} (hx : l[k]? = some x) (hb : okA n x = false) : seenV n (l.take (k + 1)) = 2 := by
  rw [seenV, if_neg]
  intro h
  have := List.all_eq_true.1 h x (by rw [List.take_add_one, hx]; simp)
  rw [hb] at this
  cases this
theorem seenV_good {n : Int} {k : Nat} {x : Ar} (hx : l[k]? = some x) (hb : okA n x = true) : seenV n (l.take (k + 1)) = seenV n (l.take k) := by
  have h1 : (some x).toList.all (okA n) = true := by simp [hb]
  rw [seenV, seenV, List.take_add_one, hx, List.all_append, h1, Bool.and_true]

set_option maxHeartbeats 4000000 in
set_option maxRecDepth 100000 in
theorem graphChecks_walk (n : Int) (a : Option Addr) (cap : Nat) (i : Int) (w : World) (hbig : len ≤ maxLen) (hl : IsArcs w.heap.size w a len l) :
    Calls Try.prog 3 #[.agg #[.int .i64 n, .slice a len cap], .int .i64 i] w fun e w' => e = .returned (.bool true) ∧ Below w.heap.size w w' := by
  unfold maxLen at hbig
  have HG := Lib.hid (Box.make (Below.refl _ w) n a len cap)
  have HLn : Hid (l.length = len) := Lib.hid hl.1
  have HL := Lib.hid hl; clear hl
  by_cases h1 : (30000 : Int) < (len : Int)
  · go_enter Try.func3, Try.ntmps3
    go_wp2_with (go_at_call 7; refine (graph_awake _).mono ?_; rintro e w1 ⟨rfl, hb1⟩; have HG1 := Lib.hid (HG.out.later hb1); have x0 := HG1.out.c0; have x1 := HG1.out.c1; clear hb1)
    go_ret
    exact ⟨rfl, HG1.out.below⟩
  · have h2 : (len : Int) ≤ 30000 := by omega
    go_enter Try.func3, Try.ntmps3
    go_wp2_with (go_at_call 7; refine (graph_awake _).mono ?_; rintro e w1 ⟨rfl, hb1⟩; have HG1 := Lib.hid (HG.out.later hb1); have x0 := HG1.out.c0; have x1 := HG1.out.c1; clear hb1)
    have HS0 : Hid ((0 : Int) = seenV n (l.take 0)) := Lib.hid rfl
    clear x0 x1
    go_loopw [5, 17] (fun v i wr => ∃ (k : Nat) (cv : Int), i = .int .i64 k ∧ k ≤ len ∧ v = .int .i64 cv ∧ Hid (cv = seenV n (l.take k)) ∧ Hid (Box w wr w.heap.size n a len cap)) (fun _ i _ => len - (intOf i).toNat)
    case atStart => exact ⟨0, 0, rfl, Nat.zero_le _, rfl, HS0, HG1⟩
    case round =>
      obtain ⟨k, cv, rfl, hk, rfl, HV, HB⟩ := hrel
      clear HS0 HG1
      by_cases hlt : k < len
      · obtain ⟨b, off, x, rfl, hb, hx, e0, e1, e2⟩ := (HB.out.arcs HL.out).at_ hlt
        have HX := Lib.hid hx; clear hx hb
        have HA := Lib.hid (Arc1.make HB.out x)
        obtain ⟨f, t, c⟩ := x
        simp only at e0 e1 e2
        have b0 := (HB.out.alloc (.cells #[.int .i64 f, .int .i64 t, .int .i64 c] 28)).c0
        by_cases q1 : f < 0
        · have HN := Lib.hid (seenV_bad HX.out (okA_bad1 (n := n) (.inl q1)))
          go_wp2_with fail
          go_roundw
          case rel => exact ⟨k + 1, 2, by go_num, by omega, rfl, Lib.hid HN.out.symm, Lib.hid HA.out.box⟩
          case measure => simp [intOf]; omega
        · by_cases q2 : n ≤ f
          · have HN := Lib.hid (seenV_bad HX.out (okA_bad1 (n := n) (.inr q2)))
            go_wp2_with fail
            go_roundw
            case rel => exact ⟨k + 1, 2, by go_num, by omega, rfl, Lib.hid HN.out.symm, Lib.hid HA.out.box⟩
            case measure => simp [intOf]; omega
          · by_cases q3 : t < 0
            · have HN := Lib.hid (seenV_bad HX.out (okA_bad2 (n := n) (.inl q3)))
              go_wp2_with fail
              go_roundw
              case rel => exact ⟨k + 1, 2, by go_num, by omega, rfl, Lib.hid HN.out.symm, Lib.hid HA.out.box⟩
              case measure => simp [intOf]; omega
            · by_cases q4 : n ≤ t
              · have HN := Lib.hid (seenV_bad HX.out (okA_bad2 (n := n) (.inr q4)))
                go_wp2_with fail
                go_roundw
                case rel => exact ⟨k + 1, 2, by go_num, by omega, rfl, Lib.hid HN.out.symm, Lib.hid HA.out.box⟩
                case measure => simp [intOf]; omega
              · by_cases q5 : c < -1099511627776
                · have HN := Lib.hid (seenV_bad HX.out (okA_bad3 (n := n) (.inl q5)))
                  go_wp2_with fail
                  go_roundw
                  case rel => exact ⟨k + 1, 2, by go_num, by omega, rfl, Lib.hid HN.out.symm, Lib.hid HA.out.box⟩
                  case measure => simp [intOf]; omega
                · by_cases q6 : 1099511627776 < c
                  · have HN := Lib.hid (seenV_bad HX.out (okA_bad3 (n := n) (.inr q6)))
                    go_wp2_with fail
                    go_roundw
                    case rel => exact ⟨k + 1, 2, by go_num, by omega, rfl, Lib.hid HN.out.symm, Lib.hid HA.out.box⟩
                    case measure => simp [intOf]; omega
                  · have HN := Lib.hid (seenV_good (n := n) HX.out (okA_true.2 ⟨by simp only; omega, by simp only; omega, by simp only; omega⟩))
                    go_wp2_with fail
                    go_roundw
                    case rel => exact ⟨k + 1, cv, by go_num, by omega, rfl, Lib.hid (HV.out.trans HN.out.symm), Lib.hid HA.out.box⟩
                    case measure => simp [intOf]; omega
      · have hk2 : l.take k = l := List.take_of_length_le (by have := HLn.out; omega)
        rw [hk2] at HV
        clear hk2
        have x0 := HB.out.c0
        have x1 := HB.out.c1
        by_cases s1 : n < 0
        · have HW := Lib.hid (checkV_size (n := n) (l := l) (.inl s1))
          by_cases i1 : i < 0
          · have HI : Hid (¬ (0 ≤ i ∧ i < n)) := Lib.hid (by omega)
            go_wp2_with (first
              | (go_at_call 8; refine (check_any n cap a _ (HB.out.arcsHere HL.out)).mono ?_; rw [HW.out]; rintro e w2 ⟨rfl, hb2⟩; have HG2 := Lib.hid (HB.out.later hb2); have y0 := HG2.out.c0; have y1 := HG2.out.c1; clear hb2)
              | (go_at_call 9; refine (has_no HI.out _ _ _ _).mono ?_; rintro e w3 ⟨rfl, hb3⟩; have HG3 := Lib.hid (HG2.out.later hb3); have z0 := HG3.out.c0; clear hb3))
            go_ret
            exact ⟨rfl, HG3.out.below⟩
          · by_cases i2 : i < n
            · omega
            · have HI : Hid (¬ (0 ≤ i ∧ i < n)) := Lib.hid (by omega)
              have j1 : decide (i < n) = false := by simpa using i2
              go_wp2_with (first
                | (go_at_call 8; refine (check_any n cap a _ (HB.out.arcsHere HL.out)).mono ?_; rw [HW.out]; rintro e w2 ⟨rfl, hb2⟩; have HG2 := Lib.hid (HB.out.later hb2); have y0 := HG2.out.c0; have y1 := HG2.out.c1; clear hb2)
                | (go_at_call 9; refine (has_no HI.out _ _ _ _).mono ?_; rintro e w3 ⟨rfl, hb3⟩; have HG3 := Lib.hid (HG2.out.later hb3); have z0 := HG3.out.c0; clear hb3))
              go_ret
              exact ⟨rfl, HG3.out.below⟩
        · by_cases s2 : 1000 < n
          · have HW := Lib.hid (checkV_size (n := n) (l := l) (.inr (.inl s2)))
            by_cases i1 : i < 0
            · have HI : Hid (¬ (0 ≤ i ∧ i < n)) := Lib.hid (by omega)
              go_wp2_with (first
                | (go_at_call 8; refine (check_any n cap a _ (HB.out.arcsHere HL.out)).mono ?_; rw [HW.out]; rintro e w2 ⟨rfl, hb2⟩; have HG2 := Lib.hid (HB.out.later hb2); have y0 := HG2.out.c0; have y1 := HG2.out.c1; clear hb2)
                | (go_at_call 9; refine (has_no HI.out _ _ _ _).mono ?_; rintro e w3 ⟨rfl, hb3⟩; have HG3 := Lib.hid (HG2.out.later hb3); have z0 := HG3.out.c0; clear hb3))
              go_ret
              exact ⟨rfl, HG3.out.below⟩
            · by_cases i2 : i < n
              · have HI : Hid (0 ≤ i ∧ i < n) := Lib.hid (by omega)
                have j1 : decide (i < n) = true := by simpa using i2
                go_wp2_with (first
                  | (go_at_call 8; refine (check_any n cap a _ (HB.out.arcsHere HL.out)).mono ?_; rw [HW.out]; rintro e w2 ⟨rfl, hb2⟩; have HG2 := Lib.hid (HB.out.later hb2); have y0 := HG2.out.c0; have y1 := HG2.out.c1; clear hb2)
                  | (go_at_call 9; refine (has_yes HI.out _ _ _ _).mono ?_; rintro e w3 ⟨rfl, hb3⟩; have HG3 := Lib.hid (HG2.out.later hb3); have z0 := HG3.out.c0; clear hb3))
                go_ret
                exact ⟨rfl, HG3.out.below⟩
              · have HI : Hid (¬ (0 ≤ i ∧ i < n)) := Lib.hid (by omega)
                have j1 : decide (i < n) = false := by simpa using i2
                go_wp2_with (first
                  | (go_at_call 8; refine (check_any n cap a _ (HB.out.arcsHere HL.out)).mono ?_; rw [HW.out]; rintro e w2 ⟨rfl, hb2⟩; have HG2 := Lib.hid (HB.out.later hb2); have y0 := HG2.out.c0; have y1 := HG2.out.c1; clear hb2)
                  | (go_at_call 9; refine (has_no HI.out _ _ _ _).mono ?_; rintro e w3 ⟨rfl, hb3⟩; have HG3 := Lib.hid (HG2.out.later hb3); have z0 := HG3.out.c0; clear hb3))
                go_ret
                exact ⟨rfl, HG3.out.below⟩
          · by_cases s3 : (20000 : Int) < (len : Int)
            · have HW := Lib.hid (checkV_size (n := n) (l := l) (.inr (.inr (by have := HLn.out; omega))))
              by_cases i1 : i < 0
              · have HI : Hid (¬ (0 ≤ i ∧ i < n)) := Lib.hid (by omega)
                go_wp2_with (first
                  | (go_at_call 8; refine (check_any n cap a _ (HB.out.arcsHere HL.out)).mono ?_; rw [HW.out]; rintro e w2 ⟨rfl, hb2⟩; have HG2 := Lib.hid (HB.out.later hb2); have y0 := HG2.out.c0; have y1 := HG2.out.c1; clear hb2)
                  | (go_at_call 9; refine (has_no HI.out _ _ _ _).mono ?_; rintro e w3 ⟨rfl, hb3⟩; have HG3 := Lib.hid (HG2.out.later hb3); have z0 := HG3.out.c0; clear hb3))
                go_ret
                exact ⟨rfl, HG3.out.below⟩
              · by_cases i2 : i < n
                · have HI : Hid (0 ≤ i ∧ i < n) := Lib.hid (by omega)
                  have j1 : decide (i < n) = true := by simpa using i2
                  go_wp2_with (first
                    | (go_at_call 8; refine (check_any n cap a _ (HB.out.arcsHere HL.out)).mono ?_; rw [HW.out]; rintro e w2 ⟨rfl, hb2⟩; have HG2 := Lib.hid (HB.out.later hb2); have y0 := HG2.out.c0; have y1 := HG2.out.c1; clear hb2)
                    | (go_at_call 9; refine (has_yes HI.out _ _ _ _).mono ?_; rintro e w3 ⟨rfl, hb3⟩; have HG3 := Lib.hid (HG2.out.later hb3); have z0 := HG3.out.c0; clear hb3))
                  go_ret
                  exact ⟨rfl, HG3.out.below⟩
                · have HI : Hid (¬ (0 ≤ i ∧ i < n)) := Lib.hid (by omega)
                  have j1 : decide (i < n) = false := by simpa using i2
                  go_wp2_with (first
                    | (go_at_call 8; refine (check_any n cap a _ (HB.out.arcsHere HL.out)).mono ?_; rw [HW.out]; rintro e w2 ⟨rfl, hb2⟩; have HG2 := Lib.hid (HB.out.later hb2); have y0 := HG2.out.c0; have y1 := HG2.out.c1; clear hb2)
                    | (go_at_call 9; refine (has_no HI.out _ _ _ _).mono ?_; rintro e w3 ⟨rfl, hb3⟩; have HG3 := Lib.hid (HG2.out.later hb3); have z0 := HG3.out.c0; clear hb3))
                  go_ret
                  exact ⟨rfl, HG3.out.below⟩
            · have HW : Hid (checkV n l = cv) := Lib.hid (by rw [HV.out, checkV, if_neg (by have := HLn.out; omega)]; rfl)
              by_cases i1 : i < 0
              · have HI : Hid (¬ (0 ≤ i ∧ i < n)) := Lib.hid (by omega)
                go_wp2_with (first
                  | (go_at_call 8; refine (check_any n cap a _ (HB.out.arcsHere HL.out)).mono ?_; rw [HW.out]; rintro e w2 ⟨rfl, hb2⟩; have HG2 := Lib.hid (HB.out.later hb2); have y0 := HG2.out.c0; have y1 := HG2.out.c1; clear hb2)
                  | (go_at_call 9; refine (has_no HI.out _ _ _ _).mono ?_; rintro e w3 ⟨rfl, hb3⟩; have HG3 := Lib.hid (HG2.out.later hb3); have z0 := HG3.out.c0; clear hb3))
                go_ret
                exact ⟨rfl, HG3.out.below⟩
              · by_cases i2 : i < n
                · have HI : Hid (0 ≤ i ∧ i < n) := Lib.hid (by omega)
                  have j1 : decide (i < n) = true := by simpa using i2
                  go_wp2_with (first
                    | (go_at_call 8; refine (check_any n cap a _ (HB.out.arcsHere HL.out)).mono ?_; rw [HW.out]; rintro e w2 ⟨rfl, hb2⟩; have HG2 := Lib.hid (HB.out.later hb2); have y0 := HG2.out.c0; have y1 := HG2.out.c1; clear hb2)
                    | (go_at_call 9; refine (has_yes HI.out _ _ _ _).mono ?_; rintro e w3 ⟨rfl, hb3⟩; have HG3 := Lib.hid (HG2.out.later hb3); have z0 := HG3.out.c0; clear hb3))
                  go_ret
                  exact ⟨rfl, HG3.out.below⟩
                · have HI : Hid (¬ (0 ≤ i ∧ i < n)) := Lib.hid (by omega)
                  have j1 : decide (i < n) = false := by simpa using i2
                  go_wp2_with (first
                    | (go_at_call 8; refine (check_any n cap a _ (HB.out.arcsHere HL.out)).mono ?_; rw [HW.out]; rintro e w2 ⟨rfl, hb2⟩; have HG2 := Lib.hid (HB.out.later hb2); have y0 := HG2.out.c0; have y1 := HG2.out.c1; clear hb2)
                    | (go_at_call 9; refine (has_no HI.out _ _ _ _).mono ?_; rintro e w3 ⟨rfl, hb3⟩; have HG3 := Lib.hid (HG2.out.later hb3); have z0 := HG3.out.c0; clear hb3))
                  go_ret
                  exact ⟨rfl, HG3.out.below⟩
end Go.Proofs.Ytkjiednhllmknaa
