/- What the law on instances that are told alike has: two that it made, one of them changed. -/
import Derived.Test.YtnnddmojcaicbaaDoorAOwn
import Derived.Test.YtnnddmojcaicbaaDoorSWords
import Derived.Test.YtnnddmojcaicbaaDoorQWords
import Derived.Test.YtnnddmojcaicbaaDoorISame
namespace Go.Proofs.YtnnddmojcaicbaaDoor
open Go.RowKit

variable {w wr w2 : World} {A A3 : InA} {AS : SmA} {s : Sm} {x y m : Ins} {D0 ga gx b B N C D i k : Nat} {u : Value} {VK VT : Nat → Nat} {LK LT : Nat → Nat → Int} {S : Nat → Prop} {z n : Int} {p : Pi}
theorem SBox.lt (h : SBox w wr AS s) : w.heap.size + 1 ≤ wr.heap.size := (Array.getElem?_eq_some_iff.1 h.blk).1
theorem SBox.mod (h : SBox w wr AS s) (hb : Below (w.heap.size + 1) wr w2) : SBox w w2 AS s := ⟨h.below.trans (hb.mono (by omega)), (hb.block _ (by omega)).trans h.blk⟩
/-- The argument's box, and the instance that stays. -/
structure BW (w wr : World) (D0 ga : Nat) (AS : SmA) (s : Sm) (A3 : InA) (m : Ins) : Prop where
  sb : SBox w wr AS s
  a : wr.heap[ga]? = some (.cells (insC A3 m) 38 (0, 0))
  ao : AOwn wr D0 A3 m
  ge : w.heap.size + 1 ≤ ga
  dge : w.heap.size + 1 ≤ D0
theorem BW.later (h : BW w wr D0 ga AS s A3 m) (hb : Below wr.heap.size wr w2) : BW w w2 D0 ga AS s A3 m :=
  ⟨h.sb.later hb, (hb.block _ (Array.getElem?_eq_some_iff.1 h.a).1).trans h.a, h.ao.later hb, h.ge, h.dge⟩
theorem BW.mod (h : BW w wr D0 ga AS s A3 m) (hm : Mod S wr w2) (hS : ∀ k, S k → D0 ≤ k) (hg : ¬ S ga) : BW w w2 D0 ga AS s A3 m :=
  ⟨h.sb.mod (hm.below h.sb.lt (fun k hk => Nat.le_trans h.dge (hS k hk))), (hm.block _ (Array.getElem?_eq_some_iff.1 h.a).1 hg).trans h.a, h.ao.mod hm hS, h.ge, h.dge⟩
theorem BW.set_ (h : BW w wr D0 ga AS s A3 m) (hb : D0 ≤ b) (hne : ga ≠ b) (i : Nat) (u : Value) : BW w (wr.setCell ⟨b, i, none⟩ u) D0 ga AS s A3 m :=
  h.mod ((Mod.refl (fun k => k = b) wr).setCell (p := ⟨b, i, none⟩) (.inr rfl) u) (fun k e => by rw [e]; exact hb) (fun e => hne e)
theorem BW.box (h : BW w wr D0 ga AS s A3 m) {cb : Array Value} (hb : wr.heap[b]? = some (.cells cb 38 (0, 0))) (hge : w.heap.size + 1 ≤ b) (hne : ga ≠ b) (i : Nat) (u : Value) : BW w (wr.setCell ⟨b, i, none⟩ u) D0 ga AS s A3 m :=
  ⟨h.sb.mod ((Below.refl _ wr).setCell (p := ⟨b, i, none⟩) hge u), (heap_setCell_other _ _ _ _ (fun e => hne (show ga = b from e))).trans h.a, h.ao.box hb i u, h.ge, h.dge⟩
/-! ### What is changed, and that it may be then -/
theorem Fresh.tr_ (h : Fresh wr gx B A x N C D VK VT LK LT) (z : Int) : Fresh (wr.setCell ⟨gx, 2, none⟩ (.int .i64 z)) gx B A { x with tr := z } N C D VK VT LK LT :=
  ⟨heap_setCell_same _ _ _ _ _ _ h.box, (h.own.keep h.box (by decide) (by decide) (by decide) (by decide) 2 (.int .i64 z)) |> fun q => ⟨q.sats, q.cus, q.cost, q.time, q.ck, q.tk, q.nl, q.ap, q.sb, q.kb, q.bc, q.cd⟩, h.ns, h.nc, h.nn⟩
theorem May.put_en (h : May m) (hz : 0 ≤ z ∧ z ≤ 1000000000) : May { m with en := z } :=
  ⟨hz, h.tm, h.tr, h.bm, h.br, h.ns, h.nc, h.sats, h.cus, h.lc, h.lt, h.cost, h.time⟩
theorem May.swap (h : May m) : May { m with tr := m.br, br := m.tr } :=
  ⟨h.en, h.tm, h.br, h.bm, h.tr, h.ns, h.nc, h.sats, h.cus, h.lc, h.lt, h.cost, h.time⟩
theorem May.put_stay (h : May m) (hp : m.cus[k]? = some p) (hz : 0 ≤ z ∧ z ≤ 1000000000) : May { m with cus := m.cus.set k (p.1, p.2.1, p.2.2.1, z) } := by
  have hn : Ins.nodes { m with cus := m.cus.set k (p.1, p.2.1, p.2.2.1, z) } = m.nodes := by simp [Ins.nodes]
  refine ⟨h.en, h.tm, h.tr, h.bm, h.br, h.ns, ?_, h.sats, ?_, by rw [hn]; exact h.lc, by rw [hn]; exact h.lt, fun j u hj => by rw [hn]; exact h.cost j u hj, fun j u hj => by rw [hn]; exact h.time j u hj⟩
  · show 1 ≤ (m.cus.set k _).length ∧ (m.cus.set k _).length ≤ 48
    rw [List.length_set]
    exact h.nc
  · intro q hq
    rcases List.mem_or_eq_of_mem_set hq with e | rfl
    · exact h.cus q e
    · have hc := h.cus p (List.mem_of_getElem? hp)
      unfold cusB at hc ⊢
      simp only [Bool.and_eq_true] at hc ⊢
      exact ⟨hc.1, inB_yes hz.1 hz.2⟩
theorem May.put_time (h : May m) (hN : m.nodes = N) (ht : m.time = sqL N LT) (hz : 0 ≤ z ∧ z ≤ 1000000000) : May { m with time := sqL N (putL LT 0 1 z) } := by
  have hn : Ins.nodes { m with time := sqL N (putL LT 0 1 z) } = N := hN
  refine ⟨h.en, h.tm, h.tr, h.bm, h.br, h.ns, h.nc, h.sats, h.cus, h.lc, by rw [hn]; exact sqL_length _ _, h.cost, fun j u hj => ?_⟩
  rw [hn]
  have hj1 : (sqL N (putL LT 0 1 z))[j]? = some u := hj
  refine ⟨sqL_mem (List.mem_of_getElem? hj1), fun t v hv => ?_⟩
  have hjN := (List.getElem?_eq_some_iff.1 hj1).1
  rw [sqL_length] at hjN
  simp [sqL, hjN] at hj1
  subst hj1
  have htN := (List.getElem?_eq_some_iff.1 hv).1
  simp at htN
  simp [htN] at hv
  subst hv
  unfold putL
  by_cases e : j = 0 ∧ t = 1
  · rw [if_pos e]
    unfold elB
    rw [inB_yes hz.1 hz.2]
    simp [e.1, e.2]
  · rw [if_neg e]
    have h2 : m.time[j]? = some ((List.range N).map (LT j)) := by rw [ht]; simp [sqL, hjN]
    exact (h.time j _ h2).2 t (LT j t) (by simp [htN])
/-- What the law's maker makes leaves room for a small number more. -/
structure Low (m : Ins) : Prop where
  en : 0 ≤ m.en ∧ m.en ≤ 10000
  stay : ∀ q ∈ m.cus, 0 ≤ q.2.2.2 ∧ q.2.2.2 ≤ 10000
  time : ∀ r ∈ m.time, ∀ v ∈ r, 0 ≤ v ∧ v ≤ 10000
theorem Low.lt (h : Low m) (ht : m.time = (List.range N).map (fun i => (List.range N).map (LT i))) (hi : i < N) (hk : k < N) : 0 ≤ LT i k ∧ LT i k ≤ 10000 :=
  h.time _ (by rw [ht]; exact List.mem_map.2 ⟨i, List.mem_range.2 hi, rfl⟩) _ (List.mem_map.2 ⟨k, List.mem_range.2 hk, rfl⟩)
theorem makeI_low (h : SmOk s) : Low (makeI s) := by
  have hw := s.wide_le
  have he := h.ok.e
  unfold sm8 at he
  refine ⟨?_, ?_, ?_⟩
  · have := wide_in s.wide s.e 255 hw he.1 he.2
    show 0 ≤ 40 + s.e * s.wide ∧ 40 + s.e * s.wide ≤ 10000
    rw [Int.mul_comm s.e]
    omega
  · intro q hq
    change q ∈ cusOf s at hq
    unfold cusOf at hq
    split at hq
    · simp at hq
      subst hq
      exact ⟨by decide, by decide⟩
    · unfold cusTo at hq
      rw [List.mem_map] at hq
      obtain ⟨c, _, rfl⟩ := hq
      show 0 ≤ c.2.2.2 % 8 ∧ c.2.2.2 % 8 ≤ 10000
      omega
  · intro r hr v hv
    change r ∈ sqRows s.time (nodesOf s) at hr
    unfold sqRows at hr
    rw [List.mem_map] at hr
    obtain ⟨i, _, rfl⟩ := hr
    rw [List.mem_map] at hv
    obtain ⟨j, _, rfl⟩ := hv
    have := sqE_in s.time (nodesOf s) i j
    omega
theorem sameI_iff (x y : Ins) : sameI x y = true ↔ x = y := by
  cases x
  cases y
  simp [sameI]
  simp [and_assoc]
theorem apart_eq (hx : May x) (hy : May y) : (((⟨(showB x).toArray⟩ : ByteArray).toList == (⟨(showB y).toArray⟩ : ByteArray).toList) == sameI x y) = true := by
  rw [Go.Lib.toList_data, Go.Lib.toList_data, beq_iff_eq, Bool.eq_iff_iff, beq_iff_eq, sameI_iff]
  exact ⟨fun e => show_apart hx hy (by simpa using e), fun e => by rw [e]⟩
end Go.Proofs.YtnnddmojcaicbaaDoor
