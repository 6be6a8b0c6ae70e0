/- Package inst: may an instance be? -/
import Derived.Test.YtmnbpnjakbihdaaINode
import Derived.Test.YtmnbpnjakbihdaaIPick
namespace Go.Proofs.Ytmnbpnjakbihdaa
open Go.RowKit

variable {w wr : World} {A : InA} {x : Ins} {B n : Nat} {a : Option Addr} {l : List Int}
/-- How many there may be. -/
def someB (n most : Int) : Bool := decide (1 ≤ n ∧ n ≤ most)
theorem ret_boolC {p q : Bool} (h : p = q) : Ending.returned (.bool p) = .returned (.bool q) := by rw [h]
theorem some_any (n most : Int) (b : Bool) (w : World) (hb : someB n most = b) :
    Calls Try.prog 68 #[.int .i64 n, .int .i64 most] w fun e w' => e = .returned (.bool b) ∧ w' = w := by
  by_cases h1 : 1 ≤ n
  · by_cases h2 : n ≤ most
    · have e : b = true := by rw [← hb]; simp [someB, h1, h2]
      have d1 : decide (n ≥ 1) = true := decide_eq_true h1
      have d2 : decide (n ≤ most) = true := decide_eq_true h2
      subst e
      go_enter Try.func68, Try.ntmps68
      go_wp2_with fail
      go_ret
      exact ⟨rfl, rfl⟩
    · have e : b = false := by rw [← hb]; simp [someB, h2]
      have d1 : decide (n ≥ 1) = true := decide_eq_true h1
      have d2 : decide (n ≤ most) = false := decide_eq_false h2
      subst e
      go_enter Try.func68, Try.ntmps68
      go_wp2_with fail
      go_ret
      exact ⟨rfl, rfl⟩
  · have e : b = false := by rw [← hb]; simp [someB, h1]
    have d1 : decide (n ≥ 1) = false := decide_eq_false h1
    subst e
    go_enter Try.func68, Try.ntmps68
    go_wp2_with fail
    go_ret
    exact ⟨rfl, rfl⟩
/-- So many are within. -/
def withTo (l : List Int) (low : Int) (k : Nat) : Prop := ∀ (j : Nat) (v : Int), j < k → l[j]? = some v → inB_ v low = true
theorem with_all {low : Int} (h : withTo l low l.length) : l.all (fun v => inB_ v low) = true := by
  rw [List.all_eq_true]
  intro v hv
  obtain ⟨j, hj⟩ := List.getElem?_of_mem hv
  exact h j v (List.getElem?_eq_some_iff.1 hj).1 hj
theorem with_not {low v : Int} {k : Nat} (h : l[k]? = some v) (hv : inB_ v low = false) : l.all (fun v => inB_ v low) = false := by
  apply Bool.eq_false_iff.2
  intro e
  rw [List.all_eq_true] at e
  have := e v (List.mem_of_getElem? h)
  rw [hv] at this
  cases this
set_option maxHeartbeats 1000000 in
theorem within_any (low : Int) (l : List Int) (a : Option Addr) (n c : Nat) (b : Bool) (w : World) (h : IsNums B w a n l) (hn : n ≤ 1000000) (hb : l.all (fun v => inB_ v low) = b) :
    Calls Try.prog 70 #[.int .i64 low, .slice a n c] w fun e w' => e = .returned (.bool b) ∧ w' = w := by
  have H := Lib.hid h
  have HB := Lib.hid hb
  have hl := h.1
  clear h hb
  have HS0 : Hid (withTo l low 0) := Lib.hid (fun j v hj => by omega)
  go_enter Try.func70, Try.ntmps70
  go_wp2_with fail
  go_loop [9] (fun iv => ∃ i : Nat, iv = .int .i64 (i : Int) ∧ i ≤ n ∧ Hid (withTo l low i)) (fun iv => n - (intOf iv).toNat)
  case atStart => exact ⟨0, rfl, Nat.zero_le _, HS0⟩
  case round =>
    obtain ⟨i, rfl, hi, HS⟩ := hrel
    clear HS0
    by_cases hlt : i < n
    · obtain ⟨b1, o1, v, rfl, g1, q1⟩ := H.out.at_ hlt
      by_cases h1 : v < low
      · have d1 : decide (v < low) = true := decide_eq_true h1
        have HE := Lib.hid (HB.out.symm.trans (with_not g1 (low := low) (by unfold inB_; rw [decide_eq_false (by omega)]; rfl)))
        clear g1
        go_wp2_with fail
        go_ret
        exact ⟨ret_boolC HE.out.symm, rfl⟩
      · have d1 : decide (v < low) = false := decide_eq_false h1
        by_cases h2 : v > 1000000000
        · have d2 : decide (v > 1000000000) = true := decide_eq_true h2
          have HE := Lib.hid (HB.out.symm.trans (with_not g1 (low := low) (by unfold inB_; rw [Bool.and_comm, decide_eq_false (by omega)]; rfl)))
          clear g1
          go_wp2_with fail
          go_ret
          exact ⟨ret_boolC HE.out.symm, rfl⟩
        · have d2 : decide (v > 1000000000) = false := decide_eq_false h2
          have HT : Hid (withTo l low (i + 1)) := Lib.hid (fun j u hj hu => by
            by_cases e : j = i
            · subst e; rw [g1] at hu; injection hu with hu; subst hu; unfold inB_; rw [decide_eq_true (by omega), decide_eq_true (by omega)]; rfl
            · exact HS.out j u (by omega) hu)
          clear g1
          go_wp2_with fail
          go_round
          case rel => exact ⟨i + 1, by go_num, by omega, HT⟩
          case measure => simp [intOf]; omega
    · obtain rfl : i = n := by omega
      have HE := Lib.hid (HB.out.symm.trans (with_all (by rw [hl]; exact HS.out)))
      go_wp2_with fail
      go_ret
      exact ⟨ret_boolC HE.out.symm, rfl⟩
theorem matrices_any (A : InA) (x : Ins) (w : World) :
    Calls Try.prog 69 #[.agg (insC A x)] w fun e w' => e = .returned (.agg #[.slice A.ka x.cost.length A.kc, .slice A.ta x.time.length A.tc]) ∧ Below w.heap.size w w' := by
  have HG := Lib.hid (XBox.make (Below.refl _ w) A x)
  have HB := Lib.hid ((((Below.refl w.heap.size w).alloc (Nat.le_refl _) (.cells (insC A x) 37)).alloc (by simp) (.cells #[.slice none 0 0, .slice none 0 0] 35)))
  have c7 := HG.out.cells.2.2.2.2.2.2.2.1
  have c8 := HG.out.cells.2.2.2.2.2.2.2.2
  unfold insC at *
  go_enter Try.func69, Try.ntmps69
  go_wp2_with fail
  have hsz : (w.alloc (.cells (insC A x) 37)).heap.size = w.heap.size + 1 := by simp
  unfold insC at hsz
  refine bodyPost_ret (v := .agg #[.slice A.ka x.cost.length A.kc, .slice A.ta x.time.length A.tc]) ?_ rfl ⟨rfl, ?_⟩
  · simp only [results, Try.results69]
    simp [go_sem]
  · exact ((Below.refl w.heap.size w).alloc (Nat.le_refl _) _).alloc (by simp) _
theorem count_split (x : Ins) : x.count = (someB x.tm 60 && someB x.bm 60 && someB (x.sats.length : Int) 12 && someB (x.cus.length : Int) 48) := by
  unfold Ins.count someB
  rw [show (decide ((1 : Int) ≤ (x.sats.length : Int) ∧ (x.sats.length : Int) ≤ 12)) = decide (1 ≤ x.sats.length ∧ x.sats.length ≤ 12) from decide_eq_decide.2 (by omega), show (decide ((1 : Int) ≤ (x.cus.length : Int) ∧ (x.cus.length : Int) ≤ 48)) = decide (1 ≤ x.cus.length ∧ x.cus.length ≤ 48) from decide_eq_decide.2 (by omega)]
set_option maxHeartbeats 1000000 in
theorem counted_any (A : InA) (x : Ins) (w : World) (b : Bool) (hb : x.count = b) :
    Calls Try.prog 57 #[.agg (insC A x)] w fun e w' => e = .returned (.bool b) ∧ Below w.heap.size w w' := by
  have HG := Lib.hid (XBox.make (Below.refl _ w) A x)
  obtain ⟨_, c1, _, c3, _, c5, c6, _⟩ := HG.out.cells
  rw [count_split] at hb
  subst hb
  have HBE := Lib.hid HG.out.below
  clear HG
  unfold insC at *
  cases b0 : someB x.tm 60 with
  | false =>
    go_enter Try.func57, Try.ntmps57
    go_wp2_with (go_at_call 68; refine (some_any _ _ _ _ rfl).mono ?_; rintro e w2 ⟨rfl, rfl⟩; first | rw [b0])
    go_ret
    exact ⟨rfl, HBE.out⟩
  | true =>
    cases b1 : someB x.bm 60 with
    | false =>
      go_enter Try.func57, Try.ntmps57
      go_wp2_with (go_at_call 68; refine (some_any _ _ _ _ rfl).mono ?_; rintro e w2 ⟨rfl, rfl⟩; first | rw [b0] | rw [b1])
      go_ret
      exact ⟨rfl, HBE.out⟩
    | true =>
      cases b2 : someB (x.sats.length : Int) 12 with
      | false =>
        go_enter Try.func57, Try.ntmps57
        go_wp2_with (go_at_call 68; refine (some_any _ _ _ _ rfl).mono ?_; rintro e w2 ⟨rfl, rfl⟩; first | rw [b0] | rw [b1] | rw [b2])
        go_ret
        exact ⟨rfl, HBE.out⟩
      | true =>
        cases b3 : someB (x.cus.length : Int) 48 with
        | false =>
          go_enter Try.func57, Try.ntmps57
          go_wp2_with (go_at_call 68; refine (some_any _ _ _ _ rfl).mono ?_; rintro e w2 ⟨rfl, rfl⟩; first | rw [b0] | rw [b1] | rw [b2] | rw [b3])
          go_ret
          exact ⟨rfl, HBE.out⟩
        | true =>
          go_enter Try.func57, Try.ntmps57
          go_wp2_with (go_at_call 68; refine (some_any _ _ _ _ rfl).mono ?_; rintro e w2 ⟨rfl, rfl⟩; first | rw [b0] | rw [b1] | rw [b2] | rw [b3])
          go_ret
          exact ⟨rfl, HBE.out⟩
/-- The one matrix's value, by its number. -/
theorem index_two (A : InA) (x : Ins) {i : Nat} (h : i < 2) : ∀ W, (Instr.index 116 (.agg #[.slice A.ka x.cost.length A.kc, .slice A.ta x.time.length A.tc]) (.int .i64 (i : Int))).run Try.prog W = .ok (.slice (A.pick i) (x.pick i).length (A.cap i)) W := by
  intro W
  obtain rfl | rfl : i = 0 ∨ i = 1 := by omega
  · kernel_rfl
  · kernel_rfl
/-- So many rows are as long as need be. -/
def longTo (N : Nat) (L : List (List Int)) (k : Nat) : Prop := ∀ (j : Nat) (r : List Int), j < k → L[j]? = some r → r.length = N
theorem long_all {N : Nat} {L : List (List Int)} (h : longTo N L L.length) (e : L.length = N) : sqB N L = true := by
  unfold sqB
  rw [decide_eq_true e, Bool.true_and, allR_true]
  intro i hi
  unfold lenB
  have : L[i]? = some (L[i]'hi) := List.getElem?_eq_getElem hi
  rw [getD_ofN this, h i _ hi this]
  simp
theorem long_not {N k : Nat} {L : List (List Int)} {r : List Int} (h : L[k]? = some r) (hr : ¬ r.length = N) : sqB N L = false := by
  apply Bool.eq_false_iff.2
  intro e
  unfold sqB at e
  rw [Bool.and_eq_true, allR_true] at e
  have := e.2 k (List.getElem?_eq_some_iff.1 h).1
  rw [getD_ofN h] at this
  simp [lenB, hr] at this
theorem size_pick (x : Ins) : x.size = (sqB x.nodes (x.pick 0) && sqB x.nodes (x.pick 1)) := rfl
theorem size_not {i : Nat} (hi : i < 2) (h : sqB x.nodes (x.pick i) = false) : x.size = false := by
  rw [size_pick]
  obtain rfl | rfl : i = 0 ∨ i = 1 := by omega
  · rw [h]; rfl
  · rw [h, Bool.and_false]
set_option maxHeartbeats 2000000 in
set_option maxRecDepth 100000 in
theorem sized_any (A : InA) (x : Ins) (w : World) (hi : IsIns w.heap.size w A x) (hs : x.sats.length + x.cus.length ≤ 1000) (hlc : x.cost.length ≤ 9223372036854775807) (hlt : x.time.length ≤ 9223372036854775807) (b : Bool) (hb : x.size = b) :
    Calls Try.prog 58 #[.agg (insC A x)] w fun e w' => e = .returned (.bool b) ∧ Below w.heap.size w w' := by
  have HG := Lib.hid (XBox.make (Below.refl _ w) A x)
  have HI := Lib.hid hi
  have HB := Lib.hid hb
  have HL : Hid (∀ i, i < 2 → (x.pick i).length ≤ 9223372036854775807) := Lib.hid (fun i _ => by unfold Ins.pick; split <;> assumption)
  clear hi hb hlc hlt
  go_enter Try.func58, Try.ntmps58
  obtain ⟨N, hN⟩ : ∃ N, x.nodes = N := ⟨_, rfl⟩
  have HN := Lib.hid hN
  go_wp2_with (first
    | (go_at_call 44; refine (nodesN A x N hN _ hs).mono ?_; rintro e w2 ⟨rfl, hb2⟩; have HG2 := Lib.hid (HG.out.later hb2); obtain ⟨k0, k1, k2, k3, k4, k5, k6, k7, k8⟩ := HG2.out.cells; clear hb2)
    | (go_at_call 69; refine (matrices_any A x _).mono ?_; rintro e w3 ⟨rfl, hb3⟩; have HG3 := Lib.hid (HG2.out.below.trans (hb3.mono HG2.out.below.size)); clear hb3))
  clear k0 k1 k2 k3 k4 k5 k6 k7 k8
  obtain ⟨wq, hwq⟩ : ∃ wq, wq = w3 := ⟨_, rfl⟩
  have HS0 : Hid (∀ j, j < 0 → sqB N (x.pick j) = true) := Lib.hid (fun j hj => by omega)
  have HIP : Hid (∀ i, IsRows w.heap.size w3 (A.pick i) (x.pick i).length (x.pick i)) := Lib.hid (fun i => (HI.out.later HG3.out).rows i)
  clear HI HG HG2 hN hwq
  go_loop [12] (fun iv => ∃ i : Nat, iv = .int .i64 (i : Int) ∧ i ≤ 2 ∧ Hid (∀ j, j < i → sqB N (x.pick j) = true)) (fun iv => 2 - (intOf iv).toNat)
  case atStart => exact ⟨0, rfl, Nat.zero_le _, HS0⟩
  case round =>
    obtain ⟨i, rfl, hi, HS⟩ := hrel
    clear HS0
    by_cases hlt : i < 2
    · have hx := index_two A x hlt
      have HRI := Lib.hid (HIP.out i)
      have hpl := HL.out i hlt
      obtain ⟨L, hL⟩ : ∃ L, x.pick i = L := ⟨_, rfl⟩
      have HLE := Lib.hid hL
      rw [hL] at hx HRI hpl
      clear hL
      generalize A.pick i = pa at hx HRI
      generalize A.cap i = pc at hx
      by_cases hLN : L.length = N
      · have d1 : ((L.length : Int) != (N : Int)) = false := by simp [hLN]
        have HLN := Lib.hid hLN
        clear hLN
        go_wp2_with fail
        have HT0 : Hid (longTo N L 0) := Lib.hid (fun j r hj => by omega)
        go_loop [21] (fun kv => ∃ k : Nat, kv = .int .i64 (k : Int) ∧ k ≤ L.length ∧ Hid (longTo N L k)) (fun kv => L.length - (intOf kv).toNat)
        case atStart => exact ⟨0, rfl, Nat.zero_le _, HT0⟩
        case round =>
          obtain ⟨k, rfl, hk, HT⟩ := hrel
          clear HT0
          by_cases hlk : k < L.length
          · obtain ⟨b0, off, r, ra, rc, rfl, hb0, hr, hrl, h1, _⟩ := HRI.out.at_ hlk
            have HRR := Lib.hid hr
            clear hr
            by_cases hrN : r.length = N
            · have d2 : ((r.length : Int) != (N : Int)) = false := by simp [hrN]
              have HT2 : Hid (longTo N L (k + 1)) := Lib.hid (fun j r2 hj hr2 => by
                by_cases e : j = k
                · subst e; rw [HRR.out] at hr2; cases hr2; exact hrN
                · exact HT.out j r2 (by omega) hr2)
              clear hrN
              go_wp2_with fail
              go_round
              case rel => exact ⟨k + 1, by go_num, by omega, HT2⟩
              case measure => simp [intOf]; omega
            · have d2 : ((r.length : Int) != (N : Int)) = true := by simp; omega
              have HE := Lib.hid (HB.out.symm.trans (size_not hlt (by rw [HN.out, HLE.out]; exact long_not HRR.out hrN)))
              clear hrN
              go_wp2_with fail
              go_ret
              exact ⟨ret_boolC HE.out.symm, HG3.out⟩
          · obtain rfl : k = L.length := by omega
            have HS2 : Hid (∀ j, j < i + 1 → sqB N (x.pick j) = true) := Lib.hid (fun j hj => by
              by_cases e : j = i
              · subst e; rw [HLE.out]; exact long_all HT.out HLN.out
              · exact HS.out j (by omega))
            go_wp2_with fail
            go_round
            case rel => exact ⟨i + 1, by go_num, by omega, HS2⟩
            case measure => simp [intOf]; omega
      · have d1 : ((L.length : Int) != (N : Int)) = true := by simp; omega
        have HE := Lib.hid (HB.out.symm.trans (size_not hlt (by rw [HN.out, HLE.out]; unfold sqB; rw [decide_eq_false hLN]; rfl)))
        go_wp2_with fail
        go_ret
        exact ⟨ret_boolC HE.out.symm, HG3.out⟩
    · obtain rfl : i = 2 := by omega
      have HE := Lib.hid (HB.out.symm.trans (by rw [size_pick, HN.out, HS.out 0 (by omega), HS.out 1 (by omega)]; rfl : x.size = true))
      go_wp2_with fail
      go_ret
      exact ⟨ret_boolC HE.out.symm, HG3.out⟩
end Go.Proofs.Ytmnbpnjakbihdaa
