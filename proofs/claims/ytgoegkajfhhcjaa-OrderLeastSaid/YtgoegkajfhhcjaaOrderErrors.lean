/- The walk of the law on errors of package order. -/
import Derived.Test.YtgoegkajfhhcjaaOrderCycles
namespace Go.Proofs.Ytgoegkajfhhcjaa
open Go.RowKit

variable {len cap m c : Nat} {l : List Ar} {w wr w2 : World} {n E cv : Int} {a b : Option Addr} {xs : List Int} {L : Nat} {okb lateb : Bool} {x : Int} {k : Nat}
/-- Is one of these too far from nothing? -/
def outB (xs : List Int) : Bool := xs.any (fun x => decide (x < -1125899906842624) || decide (1125899906842624 < x))
theorem outB_take (hx : xs[k]? = some x) : outB (xs.take (k + 1)) = (outB (xs.take k) || (decide (x < -1125899906842624) || decide (1125899906842624 < x))) := by
  rw [outB, List.take_add_one, hx, Option.toList_some, List.any_append]
  simp [outB]
theorem outB_true : outB xs = true ↔ ∃ x ∈ xs, x < -1125899906842624 ∨ 1125899906842624 < x := by simp [outB]
/-- What the law has in memory. -/
structure ErrO (w wr : World) (n : Int) (a : Option Addr) (len cap : Nat) (l : List Ar) (b : Option Addr) (m : Nat) (xs : List Int) : Prop where
  box : Box w wr w.heap.size n a len cap
  arcs : IsArcs wr.heap.size wr a len l
  ints : IsInts wr.heap.size wr b m xs
theorem IsInts.up {B B2 : Nat} (h : IsInts B w b m xs) (hb : B ≤ B2) : IsInts B2 w b m xs := ⟨h.1, by
  rcases h.2 with h | ⟨g, off, e, h1, h2⟩
  · exact .inl h
  · exact .inr ⟨g, off, e, by omega, h2⟩⟩
theorem ErrO.later (h : ErrO w wr n a len cap l b m xs) (hb : Below wr.heap.size wr w2) : ErrO w w2 n a len cap l b m xs := ⟨h.box.later hb, (h.arcs.later hb).mono hb.size, (h.ints.later hb).up hb.size⟩
theorem ErrO.make (w : World) (n : Int) (cap : Nat) (hl : IsArcs w.heap.size w a len l) (hi : IsInts w.heap.size w b m xs) : ErrO w (w.alloc (.cells #[.int .i64 n, .slice a len cap] 26)) n a len cap l b m xs := by
  have hb := (Below.refl w.heap.size w).alloc (Nat.le_refl _) (.cells #[.int .i64 n, .slice a len cap] 26)
  exact ⟨Box.make (Below.refl _ w) n a len cap, (hl.later hb).mono hb.size, (hi.later hb).up hb.size⟩

set_option maxHeartbeats 8000000 in
set_option maxRecDepth 100000 in
theorem orderErrors_core (hawake : ∀ w, Calls Try.prog 8 #[] w fun e w' => e = .returned (.bool true) ∧ Below w.heap.size w w')
    (hlen : (len : Int) ≤ 40) (hm : (m : Int) ≤ 40) (h3 : decide (30 < n) = false ∨ (decide (30 < n) = true ∧ decide (n ≤ 1000) = false ∧ cv ≠ 0)) (hcv : checkV n l = cv) (hout : outB xs = lateb)
    (hlate : ∀ W, IsArcs W.heap.size W a len l → IsInts W.heap.size W b m xs → Calls Try.prog 16 #[.agg #[.int .i64 n, .slice a len cap], .slice b m c] W fun e w' => Below W.heap.size W w' ∧ ∃ a1 c1, e = .returned (.tuple #[.slice a1 L c1, .int .i64 E]))
    (hsort : ∀ W, IsArcs W.heap.size W a len l → Calls Try.prog 10 #[.agg #[.int .i64 n, .slice a len cap]] W fun e w' => Below W.heap.size W w' ∧ ∃ a1 m1 c1, e = .returned (.tuple #[.slice a1 m1 c1, .bool okb]))
    (hcyc : cv ≠ 0 → ∀ W, IsArcs W.heap.size W a len l → Calls Try.prog 13 #[.agg #[.int .i64 n, .slice a len cap]] W fun e w' => Below W.heap.size W w' ∧ ∃ a1 c1, e = .returned (.slice a1 0 c1))
    (hcase : ((m : Int) ≠ n ∧ cv ≠ 0 ∧ okb = false ∧ E = 4 ∧ L = 0) ∨ ((m : Int) ≠ n ∧ cv = 0 ∧ E = 4 ∧ L = 0) ∨ ((m : Int) = n ∧ cv ≠ 0 ∧ okb = false ∧ E = cv ∧ L = 0) ∨ ((m : Int) = n ∧ cv = 0 ∧ lateb = true ∧ E = 2 ∧ L = 0) ∨
      ((m : Int) = n ∧ cv = 0 ∧ lateb = false ∧ okb = false ∧ E = 7 ∧ L = 0) ∨ ((m : Int) = n ∧ cv = 0 ∧ lateb = false ∧ okb = true ∧ E = 0 ∧ L = m))
    (w : World) (hl : IsArcs w.heap.size w a len l) (hi : IsInts w.heap.size w b m xs) :
    Calls Try.prog 7 #[.agg #[.int .i64 n, .slice a len cap], .slice b m c] w fun e w' => e = .returned (.bool true) ∧ Below w.heap.size w w' := by
  have HX0 := Lib.hid (ErrO.make w n cap hl hi)
  have HLn : Hid (xs.length = m) := Lib.hid hi.1
  have HLATE := Lib.hid hlate; clear hlate
  have HSORT := Lib.hid hsort; clear hsort
  have HCYC := Lib.hid hcyc; clear hcyc
  have HOUT := Lib.hid hout; clear hout
  have HCK := Lib.hid (fun (W : World) (h : IsArcs W.heap.size W a len l) => check_any n cap a W h)
  rw [hcv] at HCK
  clear hcv hl hi
  rcases hcase with ⟨hmn, hcv0, rfl, rfl, rfl⟩ | ⟨hmn, rfl, rfl, rfl⟩ | ⟨hmn, hcv0, rfl, hE, rfl⟩ | ⟨hmn, rfl, rfl, rfl, rfl⟩ | ⟨hmn, rfl, rfl, rfl, rfl, rfl⟩ | ⟨hmn, rfl, rfl, rfl, rfl, hL⟩
  · have hmb : ((m : Int) != n) = true := by simpa using hmn
    have hcb : (cv != 0) = true := by simpa using hcv0
    have hcc : (cv == 0) = false := by simpa using hcv0
    rcases h3 with h3 | ⟨h3, h4, _⟩
    · go_enter Try.func7, Try.ntmps7
      go_wp2_with (first
        | (go_at_call 8; refine (hawake _).mono ?_; rintro e w1 ⟨rfl, hb1⟩; have HX1 := Lib.hid (HX0.out.later hb1); have x0 := HX1.out.box.c0; have x1 := HX1.out.box.c1; clear hb1)
        | (go_at_call 16; refine (HLATE.out _ HX1.out.arcs HX1.out.ints).mono ?_; rintro e w2 ⟨hb2, a2, c2, rfl⟩; have HX2 := Lib.hid (HX1.out.later hb2); have y0 := HX2.out.box.c0; have y1 := HX2.out.box.c1; clear hb2 x0 x1)
        | (go_at_call 10; refine (HSORT.out _ HX2.out.arcs).mono ?_; rintro e w3 ⟨hb3, a3, m3, c3, rfl⟩; have HX3 := Lib.hid (HX2.out.later hb3); clear hb3 y0 y1))
      go_loopw [10, 47] (fun lv kv wr => ∃ k : Nat, kv = .int .i64 k ∧ lv = .bool (outB (xs.take k)) ∧ k ≤ m ∧ Hid (ErrO w wr n a len cap l b m xs)) (fun _ kv _ => m - (intOf kv).toNat)
      case atStart => exact ⟨0, rfl, rfl, Nat.zero_le _, HX3⟩
      case round =>
        obtain ⟨k, rfl, rfl, hk, HX⟩ := hrel
        clear HX3 HX0 HX1 HX2
        by_cases hlt : k < m
        · obtain ⟨g, off, x, rfl, hx, e0⟩ := HX.out.ints.at_ hlt
          have HO2 := Lib.hid (outB_take hx)
          clear hx
          cases hob : outB (xs.take k) with
          | true =>
            have HO3 : Hid (outB (xs.take (k + 1)) = true) := Lib.hid (by rw [HO2.out, hob]; rfl)
            clear hob
            go_wp2_with fail
            go_roundw
            case rel => exact ⟨k + 1, by go_num, by rw [HO3.out], by omega, HX⟩
            case measure => simp [intOf]; omega
          | false =>
            by_cases hx1 : x < -1125899906842624
            · have HO3 : Hid (outB (xs.take (k + 1)) = true) := Lib.hid (by rw [HO2.out, hob, decide_eq_true hx1]; rfl)
              have hd1 : decide (x < -1125899906842624) = true := decide_eq_true hx1
              clear hob hx1
              go_wp2_with fail
              go_roundw
              case rel => exact ⟨k + 1, by go_num, by rw [HO3.out], by omega, HX⟩
              case measure => simp [intOf]; omega
            · have hd1 : decide (x < -1125899906842624) = false := decide_eq_false hx1
              by_cases hx2 : 1125899906842624 < x
              · have HO3 : Hid (outB (xs.take (k + 1)) = true) := Lib.hid (by rw [HO2.out, hob, hd1, decide_eq_true hx2]; rfl)
                have hd2 : decide (1125899906842624 < x) = true := decide_eq_true hx2
                clear hob hx1 hx2
                go_wp2_with fail
                go_roundw
                case rel => exact ⟨k + 1, by go_num, by rw [HO3.out], by omega, HX⟩
                case measure => simp [intOf]; omega
              · have hd2 : decide (1125899906842624 < x) = false := decide_eq_false hx2
                have HO3 : Hid (outB (xs.take (k + 1)) = false) := Lib.hid (by rw [HO2.out, hob, hd1, hd2]; rfl)
                clear hob hx1 hx2
                go_wp2_with fail
                go_roundw
                case rel => exact ⟨k + 1, by go_num, by rw [HO3.out], by omega, HX⟩
                case measure => simp [intOf]; omega
        · have hkm : m = k := by omega
          subst hkm
          have ht : xs.take m = xs := List.take_of_length_le (by rw [HLn.out]; exact Nat.le_refl _)
          rw [ht, HOUT.out]
          clear ht
          have x0 := HX.out.box.c0
          have x1 := HX.out.box.c1
          have tk0 : True := trivial
          go_wp2_with (first
            | (go_at_call 19; have _s := tk0; refine (HCK.out _ HX.out.arcs).mono ?_; rintro e v0 ⟨rfl, hb⟩; have HY0 := Lib.hid (HX.out.later hb); have q00 := HY0.out.box.c0; have q01 := HY0.out.box.c1; clear hb tk0)
            | (go_at_call 13; refine (HCYC.out hcv0 _ HY0.out.arcs).mono ?_; rintro e v1 ⟨hb, a9, c9, rfl⟩; have HY1 := Lib.hid (HY0.out.later hb); have q10 := HY1.out.box.c0; have q11 := HY1.out.box.c1; clear hb))
          go_ret
          exact ⟨rfl, HY1.out.box.below⟩
    · go_enter Try.func7, Try.ntmps7
      go_wp2_with (first
        | (go_at_call 8; refine (hawake _).mono ?_; rintro e w1 ⟨rfl, hb1⟩; have HX1 := Lib.hid (HX0.out.later hb1); have x0 := HX1.out.box.c0; have x1 := HX1.out.box.c1; clear hb1)
        | (go_at_call 16; refine (HLATE.out _ HX1.out.arcs HX1.out.ints).mono ?_; rintro e w2 ⟨hb2, a2, c2, rfl⟩; have HX2 := Lib.hid (HX1.out.later hb2); have y0 := HX2.out.box.c0; have y1 := HX2.out.box.c1; clear hb2 x0 x1)
        | (go_at_call 10; refine (HSORT.out _ HX2.out.arcs).mono ?_; rintro e w3 ⟨hb3, a3, m3, c3, rfl⟩; have HX3 := Lib.hid (HX2.out.later hb3); clear hb3 y0 y1))
      go_loopw [10, 47] (fun lv kv wr => ∃ k : Nat, kv = .int .i64 k ∧ lv = .bool (outB (xs.take k)) ∧ k ≤ m ∧ Hid (ErrO w wr n a len cap l b m xs)) (fun _ kv _ => m - (intOf kv).toNat)
      case atStart => exact ⟨0, rfl, rfl, Nat.zero_le _, HX3⟩
      case round =>
        obtain ⟨k, rfl, rfl, hk, HX⟩ := hrel
        clear HX3 HX0 HX1 HX2
        by_cases hlt : k < m
        · obtain ⟨g, off, x, rfl, hx, e0⟩ := HX.out.ints.at_ hlt
          have HO2 := Lib.hid (outB_take hx)
          clear hx
          cases hob : outB (xs.take k) with
          | true =>
            have HO3 : Hid (outB (xs.take (k + 1)) = true) := Lib.hid (by rw [HO2.out, hob]; rfl)
            clear hob
            go_wp2_with fail
            go_roundw
            case rel => exact ⟨k + 1, by go_num, by rw [HO3.out], by omega, HX⟩
            case measure => simp [intOf]; omega
          | false =>
            by_cases hx1 : x < -1125899906842624
            · have HO3 : Hid (outB (xs.take (k + 1)) = true) := Lib.hid (by rw [HO2.out, hob, decide_eq_true hx1]; rfl)
              have hd1 : decide (x < -1125899906842624) = true := decide_eq_true hx1
              clear hob hx1
              go_wp2_with fail
              go_roundw
              case rel => exact ⟨k + 1, by go_num, by rw [HO3.out], by omega, HX⟩
              case measure => simp [intOf]; omega
            · have hd1 : decide (x < -1125899906842624) = false := decide_eq_false hx1
              by_cases hx2 : 1125899906842624 < x
              · have HO3 : Hid (outB (xs.take (k + 1)) = true) := Lib.hid (by rw [HO2.out, hob, hd1, decide_eq_true hx2]; rfl)
                have hd2 : decide (1125899906842624 < x) = true := decide_eq_true hx2
                clear hob hx1 hx2
                go_wp2_with fail
                go_roundw
                case rel => exact ⟨k + 1, by go_num, by rw [HO3.out], by omega, HX⟩
                case measure => simp [intOf]; omega
              · have hd2 : decide (1125899906842624 < x) = false := decide_eq_false hx2
                have HO3 : Hid (outB (xs.take (k + 1)) = false) := Lib.hid (by rw [HO2.out, hob, hd1, hd2]; rfl)
                clear hob hx1 hx2
                go_wp2_with fail
                go_roundw
                case rel => exact ⟨k + 1, by go_num, by rw [HO3.out], by omega, HX⟩
                case measure => simp [intOf]; omega
        · have hkm : m = k := by omega
          subst hkm
          have ht : xs.take m = xs := List.take_of_length_le (by rw [HLn.out]; exact Nat.le_refl _)
          rw [ht, HOUT.out]
          clear ht
          have x0 := HX.out.box.c0
          have x1 := HX.out.box.c1
          have tk0 : True := trivial
          go_wp2_with (first
            | (go_at_call 19; have _s := tk0; refine (HCK.out _ HX.out.arcs).mono ?_; rintro e v0 ⟨rfl, hb⟩; have HY0 := Lib.hid (HX.out.later hb); have q00 := HY0.out.box.c0; have q01 := HY0.out.box.c1; clear hb tk0)
            | (go_at_call 13; refine (HCYC.out hcv0 _ HY0.out.arcs).mono ?_; rintro e v1 ⟨hb, a9, c9, rfl⟩; have HY1 := Lib.hid (HY0.out.later hb); have q10 := HY1.out.box.c0; have q11 := HY1.out.box.c1; clear hb))
          go_ret
          exact ⟨rfl, HY1.out.box.below⟩
  · have hmb : ((m : Int) != n) = true := by simpa using hmn
    have h3 : decide (30 < n) = false := by
      rcases h3 with h3 | ⟨_, h4, h5⟩
      · exact h3
      · exact absurd rfl h5
    go_enter Try.func7, Try.ntmps7
    go_wp2_with (first
      | (go_at_call 8; refine (hawake _).mono ?_; rintro e w1 ⟨rfl, hb1⟩; have HX1 := Lib.hid (HX0.out.later hb1); have x0 := HX1.out.box.c0; have x1 := HX1.out.box.c1; clear hb1)
      | (go_at_call 16; refine (HLATE.out _ HX1.out.arcs HX1.out.ints).mono ?_; rintro e w2 ⟨hb2, a2, c2, rfl⟩; have HX2 := Lib.hid (HX1.out.later hb2); have y0 := HX2.out.box.c0; have y1 := HX2.out.box.c1; clear hb2 x0 x1)
      | (go_at_call 10; refine (HSORT.out _ HX2.out.arcs).mono ?_; rintro e w3 ⟨hb3, a3, m3, c3, rfl⟩; have HX3 := Lib.hid (HX2.out.later hb3); clear hb3 y0 y1))
    go_loopw [10, 47] (fun lv kv wr => ∃ k : Nat, kv = .int .i64 k ∧ lv = .bool (outB (xs.take k)) ∧ k ≤ m ∧ Hid (ErrO w wr n a len cap l b m xs)) (fun _ kv _ => m - (intOf kv).toNat)
    case atStart => exact ⟨0, rfl, rfl, Nat.zero_le _, HX3⟩
    case round =>
      obtain ⟨k, rfl, rfl, hk, HX⟩ := hrel
      clear HX3 HX0 HX1 HX2
      by_cases hlt : k < m
      · obtain ⟨g, off, x, rfl, hx, e0⟩ := HX.out.ints.at_ hlt
        have HO2 := Lib.hid (outB_take hx)
        clear hx
        cases hob : outB (xs.take k) with
        | true =>
          have HO3 : Hid (outB (xs.take (k + 1)) = true) := Lib.hid (by rw [HO2.out, hob]; rfl)
          clear hob
          go_wp2_with fail
          go_roundw
          case rel => exact ⟨k + 1, by go_num, by rw [HO3.out], by omega, HX⟩
          case measure => simp [intOf]; omega
        | false =>
          by_cases hx1 : x < -1125899906842624
          · have HO3 : Hid (outB (xs.take (k + 1)) = true) := Lib.hid (by rw [HO2.out, hob, decide_eq_true hx1]; rfl)
            have hd1 : decide (x < -1125899906842624) = true := decide_eq_true hx1
            clear hob hx1
            go_wp2_with fail
            go_roundw
            case rel => exact ⟨k + 1, by go_num, by rw [HO3.out], by omega, HX⟩
            case measure => simp [intOf]; omega
          · have hd1 : decide (x < -1125899906842624) = false := decide_eq_false hx1
            by_cases hx2 : 1125899906842624 < x
            · have HO3 : Hid (outB (xs.take (k + 1)) = true) := Lib.hid (by rw [HO2.out, hob, hd1, decide_eq_true hx2]; rfl)
              have hd2 : decide (1125899906842624 < x) = true := decide_eq_true hx2
              clear hob hx1 hx2
              go_wp2_with fail
              go_roundw
              case rel => exact ⟨k + 1, by go_num, by rw [HO3.out], by omega, HX⟩
              case measure => simp [intOf]; omega
            · have hd2 : decide (1125899906842624 < x) = false := decide_eq_false hx2
              have HO3 : Hid (outB (xs.take (k + 1)) = false) := Lib.hid (by rw [HO2.out, hob, hd1, hd2]; rfl)
              clear hob hx1 hx2
              go_wp2_with fail
              go_roundw
              case rel => exact ⟨k + 1, by go_num, by rw [HO3.out], by omega, HX⟩
              case measure => simp [intOf]; omega
      · have hkm : m = k := by omega
        subst hkm
        have ht : xs.take m = xs := List.take_of_length_le (by rw [HLn.out]; exact Nat.le_refl _)
        rw [ht, HOUT.out]
        clear ht
        have x0 := HX.out.box.c0
        have x1 := HX.out.box.c1
        have tk0 : True := trivial
        go_wp2_with (first
          | (go_at_call 19; have _s := tk0; refine (HCK.out _ HX.out.arcs).mono ?_; rintro e v0 ⟨rfl, hb⟩; have HY0 := Lib.hid (HX.out.later hb); have q00 := HY0.out.box.c0; have q01 := HY0.out.box.c1; clear hb tk0))
        go_ret
        exact ⟨rfl, HY0.out.box.below⟩
  · have hE2 := hE.symm
    subst hE2
    clear hE
    subst hmn
    have hmb : ((m : Int) != (m : Int)) = false := by simp
    have hcb : (cv != 0) = true := by simpa using hcv0
    have hcc : (cv == 0) = false := by simpa using hcv0
    have h3 : decide (30 < (m : Int)) = false := by
      rcases h3 with h3 | ⟨_, h4, h5⟩
      · exact h3
      · simp at h4; omega
    go_enter Try.func7, Try.ntmps7
    go_wp2_with (first
      | (go_at_call 8; refine (hawake _).mono ?_; rintro e w1 ⟨rfl, hb1⟩; have HX1 := Lib.hid (HX0.out.later hb1); have x0 := HX1.out.box.c0; have x1 := HX1.out.box.c1; clear hb1)
      | (go_at_call 16; refine (HLATE.out _ HX1.out.arcs HX1.out.ints).mono ?_; rintro e w2 ⟨hb2, a2, c2, rfl⟩; have HX2 := Lib.hid (HX1.out.later hb2); have y0 := HX2.out.box.c0; have y1 := HX2.out.box.c1; clear hb2 x0 x1)
      | (go_at_call 10; refine (HSORT.out _ HX2.out.arcs).mono ?_; rintro e w3 ⟨hb3, a3, m3, c3, rfl⟩; have HX3 := Lib.hid (HX2.out.later hb3); clear hb3 y0 y1))
    go_loopw [10, 47] (fun lv kv wr => ∃ k : Nat, kv = .int .i64 k ∧ lv = .bool (outB (xs.take k)) ∧ k ≤ m ∧ Hid (ErrO w wr (m : Int) a len cap l b m xs)) (fun _ kv _ => m - (intOf kv).toNat)
    case atStart => exact ⟨0, rfl, rfl, Nat.zero_le _, HX3⟩
    case round =>
      obtain ⟨k, rfl, rfl, hk, HX⟩ := hrel
      clear HX3 HX0 HX1 HX2
      by_cases hlt : k < m
      · obtain ⟨g, off, x, rfl, hx, e0⟩ := HX.out.ints.at_ hlt
        have HO2 := Lib.hid (outB_take hx)
        clear hx
        cases hob : outB (xs.take k) with
        | true =>
          have HO3 : Hid (outB (xs.take (k + 1)) = true) := Lib.hid (by rw [HO2.out, hob]; rfl)
          clear hob
          go_wp2_with fail
          go_roundw
          case rel => exact ⟨k + 1, by go_num, by rw [HO3.out], by omega, HX⟩
          case measure => simp [intOf]; omega
        | false =>
          by_cases hx1 : x < -1125899906842624
          · have HO3 : Hid (outB (xs.take (k + 1)) = true) := Lib.hid (by rw [HO2.out, hob, decide_eq_true hx1]; rfl)
            have hd1 : decide (x < -1125899906842624) = true := decide_eq_true hx1
            clear hob hx1
            go_wp2_with fail
            go_roundw
            case rel => exact ⟨k + 1, by go_num, by rw [HO3.out], by omega, HX⟩
            case measure => simp [intOf]; omega
          · have hd1 : decide (x < -1125899906842624) = false := decide_eq_false hx1
            by_cases hx2 : 1125899906842624 < x
            · have HO3 : Hid (outB (xs.take (k + 1)) = true) := Lib.hid (by rw [HO2.out, hob, hd1, decide_eq_true hx2]; rfl)
              have hd2 : decide (1125899906842624 < x) = true := decide_eq_true hx2
              clear hob hx1 hx2
              go_wp2_with fail
              go_roundw
              case rel => exact ⟨k + 1, by go_num, by rw [HO3.out], by omega, HX⟩
              case measure => simp [intOf]; omega
            · have hd2 : decide (1125899906842624 < x) = false := decide_eq_false hx2
              have HO3 : Hid (outB (xs.take (k + 1)) = false) := Lib.hid (by rw [HO2.out, hob, hd1, hd2]; rfl)
              clear hob hx1 hx2
              go_wp2_with fail
              go_roundw
              case rel => exact ⟨k + 1, by go_num, by rw [HO3.out], by omega, HX⟩
              case measure => simp [intOf]; omega
      · have hkm : m = k := by omega
        subst hkm
        have ht : xs.take m = xs := List.take_of_length_le (by rw [HLn.out]; exact Nat.le_refl _)
        rw [ht, HOUT.out]
        clear ht
        have x0 := HX.out.box.c0
        have x1 := HX.out.box.c1
        have tk0 : True := trivial
        have tk1 : True := trivial
        have tk2 : True := trivial
        go_wp2_with (first
          | (go_at_call 19; have _s := tk0; refine (HCK.out _ HX.out.arcs).mono ?_; rintro e v0 ⟨rfl, hb⟩; have HY0 := Lib.hid (HX.out.later hb); have q00 := HY0.out.box.c0; have q01 := HY0.out.box.c1; clear hb tk0)
          | (go_at_call 19; have _t := HY0; have _s := tk1; refine (HCK.out _ HY0.out.arcs).mono ?_; rintro e v1 ⟨rfl, hb⟩; have HY1 := Lib.hid (HY0.out.later hb); have q10 := HY1.out.box.c0; have q11 := HY1.out.box.c1; clear hb tk1)
          | (go_at_call 19; have _t := HY1; have _s := tk2; refine (HCK.out _ HY1.out.arcs).mono ?_; rintro e v2 ⟨rfl, hb⟩; have HY2 := Lib.hid (HY1.out.later hb); have q20 := HY2.out.box.c0; have q21 := HY2.out.box.c1; clear hb tk2)
          | (go_at_call 13; refine (HCYC.out hcv0 _ HY2.out.arcs).mono ?_; rintro e v3 ⟨hb, a9, c9, rfl⟩; have HY3 := Lib.hid (HY2.out.later hb); have q30 := HY3.out.box.c0; have q31 := HY3.out.box.c1; clear hb))
        go_ret
        exact ⟨rfl, HY3.out.box.below⟩
  · subst hmn
    have hmb : ((m : Int) != (m : Int)) = false := by simp
    have h3 : decide (30 < (m : Int)) = false := by
      rcases h3 with h3 | ⟨_, h4, h5⟩
      · exact h3
      · simp at h4; omega
    go_enter Try.func7, Try.ntmps7
    go_wp2_with (first
      | (go_at_call 8; refine (hawake _).mono ?_; rintro e w1 ⟨rfl, hb1⟩; have HX1 := Lib.hid (HX0.out.later hb1); have x0 := HX1.out.box.c0; have x1 := HX1.out.box.c1; clear hb1)
      | (go_at_call 16; refine (HLATE.out _ HX1.out.arcs HX1.out.ints).mono ?_; rintro e w2 ⟨hb2, a2, c2, rfl⟩; have HX2 := Lib.hid (HX1.out.later hb2); have y0 := HX2.out.box.c0; have y1 := HX2.out.box.c1; clear hb2 x0 x1)
      | (go_at_call 10; refine (HSORT.out _ HX2.out.arcs).mono ?_; rintro e w3 ⟨hb3, a3, m3, c3, rfl⟩; have HX3 := Lib.hid (HX2.out.later hb3); clear hb3 y0 y1))
    go_loopw [10, 47] (fun lv kv wr => ∃ k : Nat, kv = .int .i64 k ∧ lv = .bool (outB (xs.take k)) ∧ k ≤ m ∧ Hid (ErrO w wr (m : Int) a len cap l b m xs)) (fun _ kv _ => m - (intOf kv).toNat)
    case atStart => exact ⟨0, rfl, rfl, Nat.zero_le _, HX3⟩
    case round =>
      obtain ⟨k, rfl, rfl, hk, HX⟩ := hrel
      clear HX3 HX0 HX1 HX2
      by_cases hlt : k < m
      · obtain ⟨g, off, x, rfl, hx, e0⟩ := HX.out.ints.at_ hlt
        have HO2 := Lib.hid (outB_take hx)
        clear hx
        cases hob : outB (xs.take k) with
        | true =>
          have HO3 : Hid (outB (xs.take (k + 1)) = true) := Lib.hid (by rw [HO2.out, hob]; rfl)
          clear hob
          go_wp2_with fail
          go_roundw
          case rel => exact ⟨k + 1, by go_num, by rw [HO3.out], by omega, HX⟩
          case measure => simp [intOf]; omega
        | false =>
          by_cases hx1 : x < -1125899906842624
          · have HO3 : Hid (outB (xs.take (k + 1)) = true) := Lib.hid (by rw [HO2.out, hob, decide_eq_true hx1]; rfl)
            have hd1 : decide (x < -1125899906842624) = true := decide_eq_true hx1
            clear hob hx1
            go_wp2_with fail
            go_roundw
            case rel => exact ⟨k + 1, by go_num, by rw [HO3.out], by omega, HX⟩
            case measure => simp [intOf]; omega
          · have hd1 : decide (x < -1125899906842624) = false := decide_eq_false hx1
            by_cases hx2 : 1125899906842624 < x
            · have HO3 : Hid (outB (xs.take (k + 1)) = true) := Lib.hid (by rw [HO2.out, hob, hd1, decide_eq_true hx2]; rfl)
              have hd2 : decide (1125899906842624 < x) = true := decide_eq_true hx2
              clear hob hx1 hx2
              go_wp2_with fail
              go_roundw
              case rel => exact ⟨k + 1, by go_num, by rw [HO3.out], by omega, HX⟩
              case measure => simp [intOf]; omega
            · have hd2 : decide (1125899906842624 < x) = false := decide_eq_false hx2
              have HO3 : Hid (outB (xs.take (k + 1)) = false) := Lib.hid (by rw [HO2.out, hob, hd1, hd2]; rfl)
              clear hob hx1 hx2
              go_wp2_with fail
              go_roundw
              case rel => exact ⟨k + 1, by go_num, by rw [HO3.out], by omega, HX⟩
              case measure => simp [intOf]; omega
      · have hkm : m = k := by omega
        subst hkm
        have ht : xs.take m = xs := List.take_of_length_le (by rw [HLn.out]; exact Nat.le_refl _)
        rw [ht, HOUT.out]
        clear ht
        have x0 := HX.out.box.c0
        have x1 := HX.out.box.c1
        have tk0 : True := trivial
        have tk1 : True := trivial
        go_wp2_with (first
          | (go_at_call 19; have _s := tk0; refine (HCK.out _ HX.out.arcs).mono ?_; rintro e v0 ⟨rfl, hb⟩; have HY0 := Lib.hid (HX.out.later hb); have q00 := HY0.out.box.c0; have q01 := HY0.out.box.c1; clear hb tk0)
          | (go_at_call 19; have _t := HY0; have _s := tk1; refine (HCK.out _ HY0.out.arcs).mono ?_; rintro e v1 ⟨rfl, hb⟩; have HY1 := Lib.hid (HY0.out.later hb); have q10 := HY1.out.box.c0; have q11 := HY1.out.box.c1; clear hb tk1))
        go_ret
        exact ⟨rfl, HY1.out.box.below⟩
  · subst hmn
    have hmb : ((m : Int) != (m : Int)) = false := by simp
    have h3 : decide (30 < (m : Int)) = false := by
      rcases h3 with h3 | ⟨_, h4, h5⟩
      · exact h3
      · simp at h4; omega
    go_enter Try.func7, Try.ntmps7
    go_wp2_with (first
      | (go_at_call 8; refine (hawake _).mono ?_; rintro e w1 ⟨rfl, hb1⟩; have HX1 := Lib.hid (HX0.out.later hb1); have x0 := HX1.out.box.c0; have x1 := HX1.out.box.c1; clear hb1)
      | (go_at_call 16; refine (HLATE.out _ HX1.out.arcs HX1.out.ints).mono ?_; rintro e w2 ⟨hb2, a2, c2, rfl⟩; have HX2 := Lib.hid (HX1.out.later hb2); have y0 := HX2.out.box.c0; have y1 := HX2.out.box.c1; clear hb2 x0 x1)
      | (go_at_call 10; refine (HSORT.out _ HX2.out.arcs).mono ?_; rintro e w3 ⟨hb3, a3, m3, c3, rfl⟩; have HX3 := Lib.hid (HX2.out.later hb3); clear hb3 y0 y1))
    go_loopw [10, 47] (fun lv kv wr => ∃ k : Nat, kv = .int .i64 k ∧ lv = .bool (outB (xs.take k)) ∧ k ≤ m ∧ Hid (ErrO w wr (m : Int) a len cap l b m xs)) (fun _ kv _ => m - (intOf kv).toNat)
    case atStart => exact ⟨0, rfl, rfl, Nat.zero_le _, HX3⟩
    case round =>
      obtain ⟨k, rfl, rfl, hk, HX⟩ := hrel
      clear HX3 HX0 HX1 HX2
      by_cases hlt : k < m
      · obtain ⟨g, off, x, rfl, hx, e0⟩ := HX.out.ints.at_ hlt
        have HO2 := Lib.hid (outB_take hx)
        clear hx
        cases hob : outB (xs.take k) with
        | true =>
          have HO3 : Hid (outB (xs.take (k + 1)) = true) := Lib.hid (by rw [HO2.out, hob]; rfl)
          clear hob
          go_wp2_with fail
          go_roundw
          case rel => exact ⟨k + 1, by go_num, by rw [HO3.out], by omega, HX⟩
          case measure => simp [intOf]; omega
        | false =>
          by_cases hx1 : x < -1125899906842624
          · have HO3 : Hid (outB (xs.take (k + 1)) = true) := Lib.hid (by rw [HO2.out, hob, decide_eq_true hx1]; rfl)
            have hd1 : decide (x < -1125899906842624) = true := decide_eq_true hx1
            clear hob hx1
            go_wp2_with fail
            go_roundw
            case rel => exact ⟨k + 1, by go_num, by rw [HO3.out], by omega, HX⟩
            case measure => simp [intOf]; omega
          · have hd1 : decide (x < -1125899906842624) = false := decide_eq_false hx1
            by_cases hx2 : 1125899906842624 < x
            · have HO3 : Hid (outB (xs.take (k + 1)) = true) := Lib.hid (by rw [HO2.out, hob, hd1, decide_eq_true hx2]; rfl)
              have hd2 : decide (1125899906842624 < x) = true := decide_eq_true hx2
              clear hob hx1 hx2
              go_wp2_with fail
              go_roundw
              case rel => exact ⟨k + 1, by go_num, by rw [HO3.out], by omega, HX⟩
              case measure => simp [intOf]; omega
            · have hd2 : decide (1125899906842624 < x) = false := decide_eq_false hx2
              have HO3 : Hid (outB (xs.take (k + 1)) = false) := Lib.hid (by rw [HO2.out, hob, hd1, hd2]; rfl)
              clear hob hx1 hx2
              go_wp2_with fail
              go_roundw
              case rel => exact ⟨k + 1, by go_num, by rw [HO3.out], by omega, HX⟩
              case measure => simp [intOf]; omega
      · have hkm : m = k := by omega
        subst hkm
        have ht : xs.take m = xs := List.take_of_length_le (by rw [HLn.out]; exact Nat.le_refl _)
        rw [ht, HOUT.out]
        clear ht
        have x0 := HX.out.box.c0
        have x1 := HX.out.box.c1
        have tk0 : True := trivial
        have tk1 : True := trivial
        go_wp2_with (first
          | (go_at_call 19; have _s := tk0; refine (HCK.out _ HX.out.arcs).mono ?_; rintro e v0 ⟨rfl, hb⟩; have HY0 := Lib.hid (HX.out.later hb); have q00 := HY0.out.box.c0; have q01 := HY0.out.box.c1; clear hb tk0)
          | (go_at_call 19; have _t := HY0; have _s := tk1; refine (HCK.out _ HY0.out.arcs).mono ?_; rintro e v1 ⟨rfl, hb⟩; have HY1 := Lib.hid (HY0.out.later hb); have q10 := HY1.out.box.c0; have q11 := HY1.out.box.c1; clear hb tk1))
        go_ret
        exact ⟨rfl, HY1.out.box.below⟩
  · have hL2 := hL.symm
    subst hL2
    clear hL
    subst hmn
    have hmb : ((m : Int) != (m : Int)) = false := by simp
    have h3 : decide (30 < (m : Int)) = false := by
      rcases h3 with h3 | ⟨_, h4, h5⟩
      · exact h3
      · simp at h4; omega
    go_enter Try.func7, Try.ntmps7
    go_wp2_with (first
      | (go_at_call 8; refine (hawake _).mono ?_; rintro e w1 ⟨rfl, hb1⟩; have HX1 := Lib.hid (HX0.out.later hb1); have x0 := HX1.out.box.c0; have x1 := HX1.out.box.c1; clear hb1)
      | (go_at_call 16; refine (HLATE.out _ HX1.out.arcs HX1.out.ints).mono ?_; rintro e w2 ⟨hb2, a2, c2, rfl⟩; have HX2 := Lib.hid (HX1.out.later hb2); have y0 := HX2.out.box.c0; have y1 := HX2.out.box.c1; clear hb2 x0 x1)
      | (go_at_call 10; refine (HSORT.out _ HX2.out.arcs).mono ?_; rintro e w3 ⟨hb3, a3, m3, c3, rfl⟩; have HX3 := Lib.hid (HX2.out.later hb3); clear hb3 y0 y1))
    go_loopw [10, 47] (fun lv kv wr => ∃ k : Nat, kv = .int .i64 k ∧ lv = .bool (outB (xs.take k)) ∧ k ≤ m ∧ Hid (ErrO w wr (m : Int) a len cap l b m xs)) (fun _ kv _ => m - (intOf kv).toNat)
    case atStart => exact ⟨0, rfl, rfl, Nat.zero_le _, HX3⟩
    case round =>
      obtain ⟨k, rfl, rfl, hk, HX⟩ := hrel
      clear HX3 HX0 HX1 HX2
      by_cases hlt : k < m
      · obtain ⟨g, off, x, rfl, hx, e0⟩ := HX.out.ints.at_ hlt
        have HO2 := Lib.hid (outB_take hx)
        clear hx
        cases hob : outB (xs.take k) with
        | true =>
          have HO3 : Hid (outB (xs.take (k + 1)) = true) := Lib.hid (by rw [HO2.out, hob]; rfl)
          clear hob
          go_wp2_with fail
          go_roundw
          case rel => exact ⟨k + 1, by go_num, by rw [HO3.out], by omega, HX⟩
          case measure => simp [intOf]; omega
        | false =>
          by_cases hx1 : x < -1125899906842624
          · have HO3 : Hid (outB (xs.take (k + 1)) = true) := Lib.hid (by rw [HO2.out, hob, decide_eq_true hx1]; rfl)
            have hd1 : decide (x < -1125899906842624) = true := decide_eq_true hx1
            clear hob hx1
            go_wp2_with fail
            go_roundw
            case rel => exact ⟨k + 1, by go_num, by rw [HO3.out], by omega, HX⟩
            case measure => simp [intOf]; omega
          · have hd1 : decide (x < -1125899906842624) = false := decide_eq_false hx1
            by_cases hx2 : 1125899906842624 < x
            · have HO3 : Hid (outB (xs.take (k + 1)) = true) := Lib.hid (by rw [HO2.out, hob, hd1, decide_eq_true hx2]; rfl)
              have hd2 : decide (1125899906842624 < x) = true := decide_eq_true hx2
              clear hob hx1 hx2
              go_wp2_with fail
              go_roundw
              case rel => exact ⟨k + 1, by go_num, by rw [HO3.out], by omega, HX⟩
              case measure => simp [intOf]; omega
            · have hd2 : decide (1125899906842624 < x) = false := decide_eq_false hx2
              have HO3 : Hid (outB (xs.take (k + 1)) = false) := Lib.hid (by rw [HO2.out, hob, hd1, hd2]; rfl)
              clear hob hx1 hx2
              go_wp2_with fail
              go_roundw
              case rel => exact ⟨k + 1, by go_num, by rw [HO3.out], by omega, HX⟩
              case measure => simp [intOf]; omega
      · have hkm : m = k := by omega
        subst hkm
        have ht : xs.take m = xs := List.take_of_length_le (by rw [HLn.out]; exact Nat.le_refl _)
        rw [ht, HOUT.out]
        clear ht
        have x0 := HX.out.box.c0
        have x1 := HX.out.box.c1
        have tk0 : True := trivial
        have tk1 : True := trivial
        go_wp2_with (first
          | (go_at_call 19; have _s := tk0; refine (HCK.out _ HX.out.arcs).mono ?_; rintro e v0 ⟨rfl, hb⟩; have HY0 := Lib.hid (HX.out.later hb); have q00 := HY0.out.box.c0; have q01 := HY0.out.box.c1; clear hb tk0)
          | (go_at_call 19; have _t := HY0; have _s := tk1; refine (HCK.out _ HY0.out.arcs).mono ?_; rintro e v1 ⟨rfl, hb⟩; have HY1 := Lib.hid (HY0.out.later hb); have q10 := HY1.out.box.c0; have q11 := HY1.out.box.c1; clear hb tk1))
        go_ret
        exact ⟨rfl, HY1.out.box.below⟩
end Go.Proofs.Ytgoegkajfhhcjaa
