/- Which of an instance's two tables; whether it is small. -/
import Derived.Test.YtmnbpnjakbihdaaInstT
import Derived.Deep.LoopGhost
import Derived.LoopTactic
namespace Go.Proofs.Ytmnbpnjakbihdaa
open Go.RowKit

variable {w wr w2 : World} {A : InA} {x : Ins} {i k g B : Nat}
/-- The costs, and the times. -/
def Ins.pick (x : Ins) (i : Nat) : List (List Int) := if i = 0 then x.cost else x.time
def InA.pick (A : InA) (i : Nat) : Option Addr := if i = 0 then A.ka else A.ta
def InA.cap (A : InA) (i : Nat) : Nat := if i = 0 then A.kc else A.tc
/-- The two lists in a row. -/
structure TwoL (w wr : World) (g : Nat) (A : InA) (x : Ins) : Prop where
  below : Below w.heap.size w wr
  blk : wr.heap[g]? = some (.cells #[.slice A.ka x.cost.length A.kc, .slice A.ta x.time.length A.tc] 35 (0, 0))
theorem TwoL.at_ (h : TwoL w wr g A x) (hi : i < 2) : wr.cell? ⟨g, i, none⟩ = some (.slice (A.pick i) (x.pick i).length (A.cap i)) := by
  obtain rfl | rfl : i = 0 ∨ i = 1 := by omega
  · simp [World.cell?, h.blk, InA.pick, Ins.pick, InA.cap]
  · simp [World.cell?, h.blk, InA.pick, Ins.pick, InA.cap]
theorem IsIns.rows (h : IsIns B w A x) (i : Nat) : IsRows B w (A.pick i) (x.pick i).length (x.pick i) := by
  unfold InA.pick Ins.pick
  split
  · exact h.cost
  · exact h.time
/-- So many rows are short. -/
def shortTo (L : List (List Int)) (k : Nat) : Prop := ∀ (j : Nat) (r : List Int), j < k → L[j]? = some r → r.length ≤ 80
theorem light_true (h1 : x.sats.length ≤ 40) (h2 : x.cus.length ≤ 60) (h3 : x.cost.length ≤ 70) (h4 : x.time.length ≤ 70) (hs : ∀ i, i < 2 → shortTo (x.pick i) (x.pick i).length) : x.light = true := by
  have a : ∀ i, i < 2 → (x.pick i).all (fun r => decide (r.length ≤ 80)) = true := fun i hi => by
    rw [List.all_eq_true]
    intro r hr
    obtain ⟨j, hj⟩ := List.getElem?_of_mem hr
    simpa using hs i hi j r (List.getElem?_eq_some_iff.1 hj).1 hj
  have b0 := a 0 (by omega)
  have b1 := a 1 (by omega)
  simp only [Ins.pick, if_true, Nat.one_ne_zero, if_false] at b0 b1
  simp [Ins.light, h1, h2, h3, h4, b0, b1]
theorem light_row {r : List Int} (hr : (x.pick i)[k]? = some r) (h : 80 < r.length) : x.light = false := by
  have hm := List.mem_of_getElem? hr
  apply Bool.eq_false_iff.2
  intro hl
  simp only [Ins.light, Bool.and_eq_true, List.all_eq_true, decide_eq_true_eq] at hl
  obtain ⟨⟨_, h5⟩, h6⟩ := hl
  unfold Ins.pick at hm
  split at hm
  · have := h5 r hm; omega
  · have := h6 r hm; omega
theorem light_no (h : 40 < x.sats.length ∨ 60 < x.cus.length ∨ 70 < x.cost.length ∨ 70 < x.time.length) : x.light = false := by
  apply Bool.eq_false_iff.2
  intro hl
  simp only [Ins.light, Bool.and_eq_true, decide_eq_true_eq] at hl
  omega
theorem below1c (W : World) (o1 : Obj) : Below W.heap.size W (W.alloc o1) := (Below.refl _ W).alloc (Nat.le_refl _) _
theorem light_parts (h : x.light = true) : x.sats.length ≤ 40 ∧ x.cus.length ≤ 60 ∧ x.cost.length ≤ 70 ∧ x.time.length ≤ 70 ∧ (∀ (i : Nat) (r : List Int), x.cost[i]? = some r → r.length ≤ 80) ∧ ∀ (i : Nat) (r : List Int), x.time[i]? = some r → r.length ≤ 80 := by
  simp only [Ins.light, Bool.and_eq_true, decide_eq_true_eq, List.all_eq_true] at h
  obtain ⟨⟨⟨⟨⟨a, b⟩, c⟩, d⟩, e⟩, f⟩ := h
  exact ⟨a, b, c, d, fun i r hr => e r (List.mem_of_getElem? hr), fun i r hr => f r (List.mem_of_getElem? hr)⟩
end Go.Proofs.Ytmnbpnjakbihdaa
