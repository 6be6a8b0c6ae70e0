/- The law's own test: is an instance small? -/
import Derived.Test.YtkapknfcepcijaaInstT
import Derived.Deep.LoopGhost
import Derived.LoopTactic
namespace Go.Proofs.Ytkapknfcepcijaa
open Go.RowKit

variable {w wr w2 : World} {A : InA} {x : Ins} {i k g B : Nat}
/-- The costs, and the times. -/
def Ins.pick (x : Ins) (i : Nat) : List (List Int) := if i = 0 then x.cost else x.time
def InA.pick (A : InA) (i : Nat) : Option Addr := if i = 0 then A.ka else A.ta
def InA.cap (A : InA) (i : Nat) : Nat := if i = 0 then A.kc else A.tc
/-- The two lists in a row. -/
structure TwoL (w wr : World) (g : Nat) (A : InA) (x : Ins) : Prop where
  below : Below w.heap.size w wr
  blk : wr.heap[g]? = some (.cells #[.slice A.ka x.cost.length A.kc, .slice A.ta x.time.length A.tc] 26 (0, 0))
theorem TwoL.at_ (h : TwoL w wr g A x) (hi : i < 2) : wr.cell? ⟨g, i, none⟩ = some (.slice (A.pick i) (x.pick i).length (A.cap i)) := by
  obtain rfl | rfl : i = 0 ∨ i = 1 := by omega
  · simp [World.cell?, h.blk, InA.pick, Ins.pick, InA.cap]
  · simp [World.cell?, h.blk, InA.pick, Ins.pick, InA.cap]
theorem IsIns.rows (h : IsIns B w A x) (i : Nat) : IsRows B w (A.pick i) (x.pick i).length (x.pick i) := by
  unfold InA.pick Ins.pick
  split
  · exact h.cost
  · exact h.time
/-- So many rows are short. -/
def shortTo (L : List (List Int)) (k : Nat) : Prop := ∀ (j : Nat) (r : List Int), j < k → L[j]? = some r → r.length ≤ 80
theorem light_true (h1 : x.sats.length ≤ 40) (h2 : x.cus.length ≤ 60) (h3 : x.cost.length ≤ 70) (h4 : x.time.length ≤ 70) (hs : ∀ i, i < 2 → shortTo (x.pick i) (x.pick i).length) : x.light = true := by
  have a : ∀ i, i < 2 → (x.pick i).all (fun r => decide (r.length ≤ 80)) = true := fun i hi => by
    rw [List.all_eq_true]
    intro r hr
    obtain ⟨j, hj⟩ := List.getElem?_of_mem hr
    simpa using hs i hi j r (List.getElem?_eq_some_iff.1 hj).1 hj
  have b0 := a 0 (by omega)
  have b1 := a 1 (by omega)
  simp only [Ins.pick, if_true, Nat.one_ne_zero, if_false] at b0 b1
  simp [Ins.light, h1, h2, h3, h4, b0, b1]
theorem light_row {r : List Int} (hr : (x.pick i)[k]? = some r) (h : 80 < r.length) : x.light = false := by
  have hm := List.mem_of_getElem? hr
  apply Bool.eq_false_iff.2
  intro hl
  simp only [Ins.light, Bool.and_eq_true, List.all_eq_true, decide_eq_true_eq] at hl
  obtain ⟨⟨_, h5⟩, h6⟩ := hl
  unfold Ins.pick at hm
  split at hm
  · have := h5 r hm; omega
  · have := h6 r hm; omega
theorem light_no (h : 40 < x.sats.length ∨ 60 < x.cus.length ∨ 70 < x.cost.length ∨ 70 < x.time.length) : x.light = false := by
  apply Bool.eq_false_iff.2
  intro hl
  simp only [Ins.light, Bool.and_eq_true, decide_eq_true_eq] at hl
  omega
set_option maxHeartbeats 2000000 in
set_option maxRecDepth 100000 in
theorem light_any (A : InA) (x : Ins) (w : World) (hi : IsIns w.heap.size w A x) :
    Calls Try.prog 9 #[.agg (insC A x)] w fun e w' => e = .returned (.bool x.light) ∧ Below w.heap.size w w' := by
  have HG := Lib.hid (XBox.make (Below.refl _ w) A x)
  have HI := Lib.hid (HG.out.pipesHere hi)
  obtain ⟨_, _, _, _, _, c5, c6, c7, c8⟩ := HG.out.cells
  have HBB : Hid (TwoL w ((w.alloc (.cells (insC A x) 28)).alloc (.cells #[.slice A.ka x.cost.length A.kc, .slice A.ta x.time.length A.tc] 26)) (w.heap.size + 1) A x) := Lib.hid (by
    have e : (w.alloc (.cells (insC A x) 28)).heap.size = w.heap.size + 1 := by simp
    exact ⟨((Below.refl _ w).alloc (Nat.le_refl _) _).alloc (by simp) _, by rw [← e]; exact heap_alloc_new _ _⟩)
  clear hi
  unfold insC at *
  by_cases h1 : 40 < x.sats.length
  · have d1 : decide ((40 : Int) < (x.sats.length : Int)) = true := by simp; omega
    rw [light_no (.inl h1)]
    go_enter Try.func9, Try.ntmps9
    go_wp2_with fail
    go_ret
    exact ⟨rfl, HG.out.below⟩
  have d1 : decide ((40 : Int) < (x.sats.length : Int)) = false := by simp; omega
  by_cases h2 : 60 < x.cus.length
  · have d2 : decide ((60 : Int) < (x.cus.length : Int)) = true := by simp; omega
    rw [light_no (.inr (.inl h2))]
    go_enter Try.func9, Try.ntmps9
    go_wp2_with fail
    go_ret
    exact ⟨rfl, HG.out.below⟩
  have d2 : decide ((60 : Int) < (x.cus.length : Int)) = false := by simp; omega
  by_cases h3 : 70 < x.cost.length
  · have d3 : decide ((70 : Int) < (x.cost.length : Int)) = true := by simp; omega
    rw [light_no (.inr (.inr (.inl h3)))]
    go_enter Try.func9, Try.ntmps9
    go_wp2_with fail
    go_ret
    exact ⟨rfl, HG.out.below⟩
  have d3 : decide ((70 : Int) < (x.cost.length : Int)) = false := by simp; omega
  by_cases h4 : 70 < x.time.length
  · have d4 : decide ((70 : Int) < (x.time.length : Int)) = true := by simp; omega
    rw [light_no (.inr (.inr (.inr h4)))]
    go_enter Try.func9, Try.ntmps9
    go_wp2_with fail
    go_ret
    exact ⟨rfl, HG.out.below⟩
  have d4 : decide ((70 : Int) < (x.time.length : Int)) = false := by simp; omega
  have HPL : Hid (∀ i, i < 2 → (x.pick i).length ≤ 70) := Lib.hid (fun i _ => by unfold Ins.pick; split <;> omega)
  go_enter Try.func9, Try.ntmps9
  go_wp2_with fail
  have HR : Hid (∀ i, IsRows (w.alloc (.cells (insC A x) 28)).heap.size ((w.alloc (.cells (insC A x) 28)).alloc (.cells #[.slice A.ka x.cost.length A.kc, .slice A.ta x.time.length A.tc] 26)) (A.pick i) (x.pick i).length (x.pick i)) := Lib.hid (fun i => (HI.out.later ((Below.refl _ _).alloc (Nat.le_refl _) _)).rows i)
  unfold insC at HR
  obtain ⟨W0, hW0⟩ : ∃ W0, (w.alloc (.cells (insC A x) 28)).alloc (.cells #[.slice A.ka x.cost.length A.kc, .slice A.ta x.time.length A.tc] 26) = W0 := ⟨_, rfl⟩
  unfold insC at hW0
  rw [hW0] at HBB HR ⊢
  obtain ⟨B0, hB0⟩ : ∃ B0, (w.alloc (.cells (insC A x) 28)).heap.size = B0 := ⟨_, rfl⟩
  unfold insC at hB0
  rw [hB0] at HR
  clear c5 c6 c7 c8 d1 d2 d3 d4 hW0 hB0 HI
  have HS0 : Hid (∀ j, j < 0 → shortTo (x.pick j) (x.pick j).length) := Lib.hid (fun j hj => by omega)
  go_loop [35] (fun iv => ∃ i : Nat, iv = .int .i64 (i : Int) ∧ i ≤ 2 ∧ Hid (∀ j, j < i → shortTo (x.pick j) (x.pick j).length)) (fun iv => 2 - (intOf iv).toNat)
  case atStart => exact ⟨0, rfl, Nat.zero_le _, HS0⟩
  case round =>
    obtain ⟨i, rfl, hi, HS⟩ := hrel
    clear HS0
    by_cases hlt : i < 2
    · have e0 := HBB.out.at_ hlt
      have HRI := Lib.hid (HR.out i)
      have hpl := HPL.out i hlt
      obtain ⟨L, hL⟩ : ∃ L, x.pick i = L := ⟨_, rfl⟩
      have HLE := Lib.hid hL
      rw [hL] at e0 HRI hpl
      clear hL
      generalize A.pick i = pa at e0 HRI
      generalize A.cap i = pc at e0
      go_wp2_with fail
      have HT0 : Hid (shortTo L 0) := Lib.hid (fun j r hj => by omega)
      go_loop [41] (fun kv => ∃ k : Nat, kv = .int .i64 (k : Int) ∧ k ≤ L.length ∧ Hid (shortTo L k)) (fun kv => L.length - (intOf kv).toNat)
      case atStart => exact ⟨0, rfl, Nat.zero_le _, HT0⟩
      case round =>
        obtain ⟨k, rfl, hk, HT⟩ := hrel
        clear HT0
        by_cases hlk : k < L.length
        · obtain ⟨b, off, r, ra, rc, rfl, hb, hr, hrl, h1, _⟩ := HRI.out.at_ hlk
          have HRR := Lib.hid hr
          clear hr
          by_cases h80 : 80 < r.length
          · have d80 : decide ((80 : Int) < (r.length : Int)) = true := by simp; omega
            have HX := Lib.hid (light_row (x := x) (i := i) (k := k) (r := r) (by rw [HLE.out]; exact HRR.out) h80)
            go_wp2_with fail
            go_ret
            exact ⟨by rw [HX.out]; rfl, HBB.out.below⟩
          · have d80 : decide ((80 : Int) < (r.length : Int)) = false := by simp; omega
            have HT2 : Hid (shortTo L (k + 1)) := Lib.hid (fun j r2 hj hr2 => by
              by_cases e : j = k
              · subst e; rw [HRR.out] at hr2; cases hr2; omega
              · exact HT.out j r2 (by omega) hr2)
            go_wp2_with fail
            go_round
            case rel => exact ⟨k + 1, by go_num, by omega, HT2⟩
            case measure => simp [intOf]; omega
        · obtain rfl : k = L.length := by omega
          have HS2 : Hid (∀ j, j < i + 1 → shortTo (x.pick j) (x.pick j).length) := Lib.hid (fun j hj => by
            by_cases e : j = i
            · subst e; rw [HLE.out]; exact HT.out
            · exact HS.out j (by omega))
          go_wp2_with fail
          go_round
          case rel => exact ⟨i + 1, by go_num, by omega, HS2⟩
          case measure => simp [intOf]; omega
    · obtain rfl : i = 2 := by omega
      have HX := Lib.hid (light_true (x := x) (by omega) (by omega) (by omega) (by omega) HS.out)
      go_wp2_with fail
      go_ret
      exact ⟨by rw [HX.out]; rfl, HBB.out.below⟩
end Go.Proofs.Ytkapknfcepcijaa
