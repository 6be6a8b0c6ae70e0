/- What the law's maker makes may be, and is small. -/
import Derived.Test.YtmnbpnjakbihdaaIMakeT
import Derived.Test.YtmnbpnjakbihdaaIRange
namespace Go.Proofs.Ytmnbpnjakbihdaa
open Go.RowKit

variable {s : Sm} {zs : List Int} {N i k : Nat}
/-- All its numbers are small ones. -/
structure SmOk (s : Sm) : Prop where
  ok : s.Ok
  sats : ∀ x ∈ s.sats, sm8 x.1 ∧ sm8 x.2
  whos : ∀ x ∈ s.whos, sm8 x.1 ∧ sm8 x.2.1 ∧ sm8 x.2.2.1 ∧ sm8 x.2.2.2
theorem IsSm.okl {w : World} {B : Nat} {A : SmA} (h : IsSm B w A s) : SmOk s := ⟨h.ok, h.sats.2.1, h.whos.2.1⟩
theorem sqE_in (zs : List Int) (N i j : Nat) : 0 ≤ sqE zs N i j ∧ sqE zs N i j < 30 := by
  unfold sqE
  split
  · omega
  · omega
theorem sqE_diag (zs : List Int) (N i : Nat) : sqE zs N i i = 0 := by simp [sqE]
theorem sqRows_length (zs : List Int) (N : Nat) : (sqRows zs N).length = N := by simp [sqRows]
theorem sqRows_get (zs : List Int) (h : i < N) : (sqRows zs N)[i]? = some ((List.range N).map (sqE zs N i)) := by simp [sqRows, h]
theorem sqRows_sq (zs : List Int) (N : Nat) : sqB N (sqRows zs N) = true := by
  unfold sqB
  rw [decide_eq_true (sqRows_length zs N), Bool.true_and, allR_true]
  intro i hi
  rw [sqRows_length] at hi
  rw [getD_ofN (sqRows_get zs hi)]
  simp [lenB]
theorem inB_yes {v low : Int} (h1 : low ≤ v) (h2 : v ≤ 1000000000) : inB_ v low = true := by simp [inB_, h1, h2]
theorem sqRows_good (zs : List Int) (N : Nat) : rowsB (sqRows zs N) = true := by
  unfold rowsB
  rw [allR_true]
  intro i hi
  rw [sqRows_length] at hi
  rw [getD_ofN (sqRows_get zs hi)]
  unfold rowB
  rw [allR_true]
  intro k hk
  have hk2 : k < N := by simpa using hk
  have e : ((List.range N).map (sqE zs N i))[k]? = some (sqE zs N i k) := by simp [hk2]
  rw [getD_ofN e]
  have h := sqE_in zs N i k
  unfold elB
  rw [inB_yes h.1 (by omega), Bool.true_and]
  by_cases e2 : i = k
  · subst e2
    rw [sqE_diag]
    simp
  · simp [e2]
theorem satsOf_le (s : Sm) : 1 ≤ (satsOf s).length ∧ (satsOf s).length ≤ 3 := by
  unfold satsOf
  split
  · exact ⟨Nat.le_refl _, by simp⟩
  · rename_i h
    have := satsTo_len (s := s) (Nat.le_refl s.sats.length)
    have h2 : (satsTo s s.sats.length).length ≠ 0 := fun e => h (List.eq_nil_of_length_eq_zero e)
    omega
theorem cusOf_le (s : Sm) : 1 ≤ (cusOf s).length ∧ (cusOf s).length ≤ 6 := by
  unfold cusOf
  split
  · exact ⟨Nat.le_refl _, by simp⟩
  · rename_i h
    have := cusTo_len (s := s) (Nat.le_refl s.whos.length)
    have h2 : (cusTo s s.whos.length).length ≠ 0 := fun e => h (List.eq_nil_of_length_eq_zero e)
    omega
theorem nodes_le (s : Sm) : 3 ≤ nodesOf s ∧ nodesOf s ≤ 10 := by
  have := satsOf_le s
  have := cusOf_le s
  unfold nodesOf
  omega
theorem wide_in (wd z b : Int) (h : 1 ≤ wd ∧ wd ≤ 9) (hz : 0 ≤ z) (hb : z ≤ b) : 0 ≤ wd * z ∧ wd * z ≤ 9 * b :=
  ⟨Int.mul_nonneg (by omega) hz, Int.le_trans (Int.mul_le_mul_of_nonneg_right h.2 hz) (Int.mul_le_mul_of_nonneg_left hb (by omega))⟩
theorem satOf_good {wd : Int} (h : 1 ≤ wd ∧ wd ≤ 9) {x : Int × Int} : satB (satOf wd x) = true := by
  have := wide_in wd (x.1 % 40) 39 h (by omega) (by omega)
  unfold satB satOf
  rw [Bool.and_eq_true]
  exact ⟨inB_yes (by simp only; omega) (by simp only; omega), inB_yes (by simp only; omega) (by simp only; omega)⟩
theorem whoOf_good {wd : Int} {t : Bool} (h : 1 ≤ wd ∧ wd ≤ 9) {x : Pi} (hx : sm8 x.1 ∧ sm8 x.2.1 ∧ sm8 x.2.2.1 ∧ sm8 x.2.2.2) : cusB (whoOf wd t x) = true := by
  unfold sm8 at hx
  have := wide_in wd x.2.2.1 255 h (by omega) (by omega)
  have hl : 1 ≤ loadOf t x.1 ∧ loadOf t x.1 ≤ 14 := by unfold loadOf; split <;> omega
  unfold cusB whoOf
  simp only [Bool.and_eq_true]
  exact ⟨⟨⟨inB_yes hl.1 (by omega), inB_yes (by omega) (by omega)⟩, inB_yes (by omega) (by omega)⟩, inB_yes (by omega) (by omega)⟩
theorem mem_satsOf (s : Sm) : ∀ x ∈ satsOf s, satB x = true := by
  intro x hx
  unfold satsOf at hx
  split at hx
  · simp at hx
    subst hx
    rfl
  · unfold satsTo at hx
    rw [List.mem_map] at hx
    obtain ⟨y, _, rfl⟩ := hx
    exact satOf_good s.wide_le
theorem mem_cusOf (h : SmOk s) : ∀ x ∈ cusOf s, cusB x = true := by
  intro x hx
  unfold cusOf at hx
  split at hx
  · simp at hx
    subst hx
    rfl
  · unfold cusTo at hx
    rw [List.mem_map] at hx
    obtain ⟨y, hy, rfl⟩ := hx
    exact whoOf_good s.wide_le (h.whos y (List.mem_of_mem_take (List.mem_of_mem_take hy)))
theorem makeI_count (h : SmOk s) : (makeI s).count = true := by
  have h1 := satsOf_le s
  have h2 := cusOf_le s
  have ht := h.ok.t
  have hb := h.ok.b
  unfold sm8 at ht hb
  rw [count_split]
  unfold someB makeI
  simp only [Bool.and_eq_true, decide_eq_true_eq]
  omega
theorem makeI_nodes (s : Sm) : (makeI s).nodes = nodesOf s := rfl
theorem makeI_good (h : SmOk s) : (makeI s).good = true := by
  rw [good_parts]
  have hw := s.wide_le
  have he := h.ok.e
  have ht := h.ok.tr
  have hb := h.ok.br
  unfold sm8 at he ht hb
  have e1 := wide_in s.wide s.e 255 hw (by omega) (by omega)
  have e2 := wide_in s.wide (s.tr % 40) 39 hw (by omega) (by omega)
  have e3 := wide_in s.wide (s.br % 20) 19 hw (by omega) (by omega)
  have e1' : s.e * s.wide = s.wide * s.e := Int.mul_comm _ _
  refine ⟨?_, fun i hi => ?_, fun i hi => ?_, fun i hi => ?_⟩
  · unfold Ins.three makeI
    simp only [List.all_cons, List.all_nil, Bool.and_true, Bool.and_eq_true]
    exact ⟨inB_yes (by omega) (by omega), inB_yes (by omega) (by omega), inB_yes (by omega) (by omega)⟩
  · have hx : (makeI s).sats[i]? = some ((makeI s).sats[i]'hi) := List.getElem?_eq_getElem hi
    rw [getD_ofN hx]
    exact mem_satsOf s _ (List.mem_of_getElem? hx)
  · have hx : (makeI s).cus[i]? = some ((makeI s).cus[i]'hi) := List.getElem?_eq_getElem hi
    rw [getD_ofN hx]
    exact mem_cusOf h _ (List.mem_of_getElem? hx)
  · unfold Ins.pick
    split
    · exact sqRows_good _ _
    · exact sqRows_good _ _
/-- It may be. -/
theorem makeI_ok (h : SmOk s) : instErr (makeI s) = 0 := by
  have hz : (makeI s).size = true := by
    rw [size_pick, Bool.and_eq_true]
    exact ⟨sqRows_sq _ _, sqRows_sq _ _⟩
  simp [instErr, makeI_count h, hz, makeI_good h]
theorem light_of {x : Ins} (h1 : x.sats.length ≤ 40) (h2 : x.cus.length ≤ 60) (h3 : x.cost.length ≤ 70) (h4 : x.time.length ≤ 70) (h5 : ∀ r ∈ x.cost, r.length ≤ 80) (h6 : ∀ r ∈ x.time, r.length ≤ 80) : x.light = true := by
  simp only [Ins.light, Bool.and_eq_true, decide_eq_true_eq, List.all_eq_true]
  exact ⟨⟨⟨⟨⟨h1, h2⟩, h3⟩, h4⟩, h5⟩, h6⟩
theorem sqRows_mem {r : List Int} (h : r ∈ sqRows zs N) : r.length = N := by
  simp only [sqRows, List.mem_map] at h
  obtain ⟨i, _, rfl⟩ := h
  simp
theorem makeI_light (s : Sm) : (makeI s).light = true := by
  have h1 := satsOf_le s
  have h2 := cusOf_le s
  have h3 := nodes_le s
  refine light_of (by show (satsOf s).length ≤ 40; omega) (by show (cusOf s).length ≤ 60; omega) (by show (sqRows s.cost (nodesOf s)).length ≤ 70; rw [sqRows_length]; omega) (by show (sqRows s.time (nodesOf s)).length ≤ 70; rw [sqRows_length]; omega) (fun r hr => ?_) (fun r hr => ?_)
  · have := sqRows_mem (zs := s.cost) (N := nodesOf s) hr; omega
  · have := sqRows_mem (zs := s.time) (N := nodesOf s) hr; omega
end Go.Proofs.Ytmnbpnjakbihdaa
