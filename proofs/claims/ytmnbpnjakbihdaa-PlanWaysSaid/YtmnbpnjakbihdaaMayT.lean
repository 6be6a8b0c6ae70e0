/- An instance that may be, number by number. No Go in sight. -/
import Derived.Test.YtmnbpnjakbihdaaInstT
namespace Go.Proofs.Ytmnbpnjakbihdaa

variable {x : Ins}
/-- The numbers of row i are good. -/
def rowG (i : Nat) (r : List Int) : Prop := ∀ (k : Nat) (v : Int), r[k]? = some v → elB i k v = true
/-- What is known of an instance that may be. -/
structure May (x : Ins) : Prop where
  en : 0 ≤ x.en ∧ x.en ≤ 1000000000
  tm : 1 ≤ x.tm ∧ x.tm ≤ 60
  tr : 0 ≤ x.tr ∧ x.tr ≤ 1000000000
  bm : 1 ≤ x.bm ∧ x.bm ≤ 60
  br : 0 ≤ x.br ∧ x.br ≤ 1000000000
  ns : 1 ≤ x.sats.length ∧ x.sats.length ≤ 12
  nc : 1 ≤ x.cus.length ∧ x.cus.length ≤ 48
  sats : ∀ s ∈ x.sats, satB s = true
  cus : ∀ s ∈ x.cus, cusB s = true
  lc : x.cost.length = x.nodes
  lt : x.time.length = x.nodes
  cost : ∀ (k : Nat) (u : List Int), x.cost[k]? = some u → u.length = x.nodes ∧ rowG k u
  time : ∀ (k : Nat) (u : List Int), x.time[k]? = some u → u.length = x.nodes ∧ rowG k u
theorem rows_of {N : Nat} {l : List (List Int)} (h : sqB N l = true) (hr : rowsB l = true) : l.length = N ∧ ∀ (k : Nat) (u : List Int), l[k]? = some u → u.length = N ∧ rowG k u := by
  simp only [sqB, Bool.and_eq_true, decide_eq_true_eq, allR_true] at h
  simp only [rowsB, allR_true] at hr
  refine ⟨h.1, fun k u hk => ?_⟩
  have hl : k < l.length := (List.getElem?_eq_some_iff.1 hk).1
  have hg : l.getD k [] = u := by simp [List.getD, hk]
  have h1 := h.2 k hl
  have h2 := hr k hl
  rw [hg] at h1 h2
  refine ⟨by simpa [lenB] using h1, fun j v hj => ?_⟩
  simp only [rowB, allR_true] at h2
  have h3 := h2 j (List.getElem?_eq_some_iff.1 hj).1
  rwa [show u.getD j 0 = v by simp [List.getD, hj]] at h3
theorem getD_all {α : Type} {l : List α} {p : α → Bool} {d : α} (h : allR l.length (fun i => p (l.getD i d)) = true) : ∀ x ∈ l, p x = true := by
  rw [allR_true] at h
  intro x hx
  obtain ⟨i, hi, e⟩ := List.getElem_of_mem hx
  have := h i hi
  rwa [show l.getD i d = x by simp [List.getD, List.getElem?_eq_getElem hi, e]] at this
theorem May.of_err (h : instErr x = 0) : May x := by
  unfold instErr at h
  split at h
  · rename_i hc
    split at h
    · rename_i hs
      split at h
      · rename_i hg
        simp only [Ins.count, Bool.and_eq_true, decide_eq_true_eq] at hc
        simp only [Ins.size, Bool.and_eq_true] at hs
        simp only [Ins.good, Bool.and_eq_true] at hg
        obtain ⟨⟨⟨⟨⟨⟨g1, g2⟩, g3⟩, g4⟩, g5⟩, g6⟩, g7⟩ := hg
        obtain ⟨k1, k2⟩ := rows_of hs.1 g1
        obtain ⟨k3, k4⟩ := rows_of hs.2 g2
        simp [inB_] at g3 g4 g5
        exact ⟨g3, hc.1.1.1, g4, hc.1.1.2, g5, hc.1.2, hc.2, getD_all g6, getD_all g7, k1, k3, k2, k4⟩
      · cases h
    · cases h
  · cases h
theorem nodes_61 (h : May x) : x.nodes ≤ 61 := by
  have := h.ns
  have := h.nc
  unfold Ins.nodes
  omega
/-- What may be has no error. -/
theorem May.err (h : May x) : instErr x = 0 := by
  have rows : ∀ {L : List (List Int)}, L.length = x.nodes → (∀ (k : Nat) (u : List Int), L[k]? = some u → u.length = x.nodes ∧ rowG k u) → sqB x.nodes L = true ∧ rowsB L = true := fun {L} hl hr => by
    constructor
    · simp only [sqB, Bool.and_eq_true, decide_eq_true_eq, allR_true]
      refine ⟨hl, fun i hi => ?_⟩
      have := (hr i L[i] (List.getElem?_eq_getElem hi)).1
      simp [lenB, List.getD, List.getElem?_eq_getElem hi, this]
    · simp only [rowsB, allR_true]
      intro i hi
      have h2 := (hr i L[i] (List.getElem?_eq_getElem hi)).2
      simp only [rowB, allR_true]
      intro k hk
      have e : L.getD i [] = L[i] := by simp [List.getD, List.getElem?_eq_getElem hi]
      rw [e] at hk ⊢
      have := h2 k (L[i][k]) (List.getElem?_eq_getElem hk)
      simpa [List.getD, List.getElem?_eq_getElem hk] using this
  have h1 : x.count = true := by
    simp only [Ins.count, Bool.and_eq_true, decide_eq_true_eq]
    exact ⟨⟨⟨h.tm, h.bm⟩, h.ns⟩, h.nc⟩
  have r1 := rows h.lc h.cost
  have r2 := rows h.lt h.time
  have h2 : x.size = true := by
    simp only [Ins.size, Bool.and_eq_true]
    exact ⟨r1.1, r2.1⟩
  have h3 : x.good = true := by
    simp only [Ins.good, Bool.and_eq_true, allR_true]
    refine ⟨⟨⟨⟨⟨⟨r1.2, r2.2⟩, ?_⟩, ?_⟩, ?_⟩, fun i hi => ?_⟩, fun i hi => ?_⟩
    · have := h.en; simp [inB_]; omega
    · have := h.tr; simp [inB_]; omega
    · have := h.br; simp [inB_]; omega
    · have := h.sats x.sats[i] (List.getElem_mem hi)
      simpa [List.getD, List.getElem?_eq_getElem hi] using this
    · have := h.cus x.cus[i] (List.getElem_mem hi)
      simpa [List.getD, List.getElem?_eq_getElem hi] using this
  simp [instErr, h1, h2, h3]
end Go.Proofs.Ytmnbpnjakbihdaa
