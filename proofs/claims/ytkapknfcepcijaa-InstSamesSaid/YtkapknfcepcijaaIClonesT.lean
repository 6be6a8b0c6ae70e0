/- The law's small instance boxed; rows that may be written, whatever they hold. -/
import Derived.Test.YtkapknfcepcijaaIClo
import Derived.Test.YtkapknfcepcijaaIAwake
namespace Go.Proofs.Ytkapknfcepcijaa
open Go.RowKit

variable {w wr w2 W3 : World} {A : SmA} {A2 : InA} {s : Sm} {x : Ins} {B m N b i g gy : Nat} {a : Option Addr} {T Tb : TypeId} {u : Value} {cb : Array Value}
/-- The small instance is boxed. -/
structure SBox (w wr : World) (A : SmA) (s : Sm) : Prop where
  below : Below w.heap.size w wr
  blk : wr.heap[w.heap.size]? = some (.cells (smC A s) 38 (0, 0))
theorem SBox.make (w : World) (A : SmA) (s : Sm) : SBox w (w.alloc (.cells (smC A s) 38)) A s := ⟨below1 _ _, heap_alloc_new _ _⟩
theorem SBox.later (h : SBox w wr A s) (hb : Below wr.heap.size wr w2) : SBox w w2 A s := ⟨h.below.trans (hb.mono h.below.size), (hb.block _ (Array.getElem?_eq_some_iff.1 h.blk).1).trans h.blk⟩
theorem SBox.cells (h : SBox w wr A s) : wr.cell? ⟨w.heap.size, 0, none⟩ = some (.int .u8 s.e) ∧ wr.cell? ⟨w.heap.size, 1, none⟩ = some (.int .u8 s.t) ∧ wr.cell? ⟨w.heap.size, 2, none⟩ = some (.int .u8 s.tr) ∧ wr.cell? ⟨w.heap.size, 3, none⟩ = some (.int .u8 s.b) ∧ wr.cell? ⟨w.heap.size, 4, none⟩ = some (.int .u8 s.br) ∧ wr.cell? ⟨w.heap.size, 5, none⟩ = some (.slice A.sa s.sats.length A.sc) ∧ wr.cell? ⟨w.heap.size, 6, none⟩ = some (.slice A.wa s.whos.length A.wc) ∧ wr.cell? ⟨w.heap.size, 7, none⟩ = some (.slice A.ca A.cn A.cc) ∧ wr.cell? ⟨w.heap.size, 8, none⟩ = some (.slice A.ta A.tn A.tc) ∧ wr.cell? ⟨w.heap.size, 9, none⟩ = some (.bool s.tight) ∧ wr.cell? ⟨w.heap.size, 10, none⟩ = some (.bool s.loose) := by
  simp [World.cell?, h.blk]
theorem IsSm.mono {B2 : Nat} (h : IsSm B w A s) (hb : B ≤ B2) : IsSm B2 w A s := by
  refine ⟨⟨h.sats.1, h.sats.2.1, ?_⟩, ⟨h.whos.1, h.whos.2.1, ?_⟩, h.cost.mono hb, h.time.mono hb, h.ok, h.sl, h.wl⟩
  · rcases h.sats.2.2 with h0 | ⟨b, off, e, h1, h2⟩
    · exact .inl h0
    · exact .inr ⟨b, off, e, by omega, h2⟩
  · rcases h.whos.2.2 with h0 | ⟨b, off, e, h1, h2⟩
    · exact .inl h0
    · exact .inr ⟨b, off, e, by omega, h2⟩
theorem SBox.here (h : SBox w wr A s) (hs : IsSm w.heap.size w A s) : IsSm wr.heap.size wr A s := (hs.later h.below).mono h.below.size
/-- So many cells that may be written. -/
def WRow (w : World) (B : Nat) (T : TypeId) (a : Option Addr) (m : Nat) : Prop := m = 0 ∨ ∃ g cur, a = some ⟨g, 0, none⟩ ∧ B ≤ g ∧ w.heap[g]? = some (.cells cur T (0, 0)) ∧ m ≤ cur.size
theorem WRow.set_ (h : WRow w B T a m) (hb : w.heap[b]? = some (.cells cb Tb (0, 0))) (i : Nat) (u : Value) : WRow (w.setCell ⟨b, i, none⟩ u) B T a m := by
  rcases h with h | ⟨g, cur, e, h1, h2, h3⟩
  · exact .inl h
  · by_cases e2 : g = b
    · subst e2
      rw [h2] at hb
      injection hb with hb
      injection hb with hc hT
      subst hc hT
      exact .inr ⟨g, _, e, h1, heap_setCell_same _ _ _ _ _ _ h2, by simpa using h3⟩
    · exact .inr ⟨g, cur, e, h1, (heap_setCell_other _ _ _ _ (fun h => e2 (show g = b from h))).trans h2, h3⟩
theorem WRow.at_ (h : WRow w B T a m) (hi : i < m) : ∃ g v cur, a = some ⟨g, 0, none⟩ ∧ B ≤ g ∧ w.cell? ⟨g, i, none⟩ = some v ∧ w.frozen? ⟨g, i, none⟩ = false ∧ w.heap[g]? = some (.cells cur T (0, 0)) := by
  rcases h with h | ⟨g, cur, e, h1, h2, h3⟩
  · omega
  · obtain ⟨v, hv⟩ : ∃ v, cur[i]? = some v := ⟨_, Array.getElem?_eq_getElem (by omega)⟩
    exact ⟨g, v, cur, e, h1, by simp [World.cell?, h2, hv], by simp [World.frozen?, h2], h2⟩
theorem WRow.later (h : WRow w B T a m) (hb : Below w.heap.size w w2) : WRow w2 B T a m := by
  rcases h with h | ⟨g, cur, e, h1, h2, h3⟩
  · exact .inl h
  · exact .inr ⟨g, cur, e, h1, (hb.block _ (Array.getElem?_eq_some_iff.1 h2).1).trans h2, h3⟩
theorem own_wrow {sz n c : Nat} {xs : List Value} (h : w.ownsRow B T sz (.slice a n c) n xs) : WRow w B T a (n * sz) := by
  rcases h.2 with ⟨_, h0⟩ | ⟨g, cap, cur, hv, hb, hg, hc, _, hs, _⟩
  · exact .inl (by rw [h0, Nat.zero_mul])
  · injection hv with e1 _ _
    exact .inr ⟨g, cur, e1, hb, hg, by rw [hs]; exact Nat.mul_le_mul_right _ hc⟩
/-- Rows of so many cells each that may be written. -/
def WSq (w : World) (B : Nat) (a : Option Addr) (N : Nat) : Prop := N = 0 ∨ ∃ g cur, a = some ⟨g, 0, none⟩ ∧ B ≤ g ∧ w.heap[g]? = some (.cells cur 45 (0, 0)) ∧ ∀ i, i < N → ∃ ra rc, cur[i]? = some (.slice ra N rc) ∧ WRow w B 2 ra N
theorem WSq.set_ (h : WSq w B a N) (hb : w.heap[b]? = some (.cells cb Tb (0, 0))) (hT : ¬ Tb = 45) (i : Nat) (u : Value) : WSq (w.setCell ⟨b, i, none⟩ u) B a N := by
  rcases h with h | ⟨g, cur, e, h1, h2, h3⟩
  · exact .inl h
  · refine .inr ⟨g, cur, e, h1, (heap_setCell_other _ _ _ _ (fun h => ?_)).trans h2, fun j hj => ?_⟩
    · have e2 : g = b := h
      subst e2
      rw [h2] at hb
      injection hb with hb
      injection hb with _ hT2
      exact hT hT2.symm
    · obtain ⟨ra, rc, h4, h5⟩ := h3 j hj
      exact ⟨ra, rc, h4, h5.set_ hb i u⟩
theorem WSq.at_ (h : WSq w B a N) (hi : i < N) : ∃ g ra rc, a = some ⟨g, 0, none⟩ ∧ w.cell? ⟨g, i, none⟩ = some (.slice ra N rc) ∧ WRow w B 2 ra N := by
  rcases h with h | ⟨g, cur, e, h1, h2, h3⟩
  · omega
  · obtain ⟨ra, rc, h4, h5⟩ := h3 i hi
    exact ⟨g, ra, rc, e, by simp [World.cell?, h2, h4], h5⟩
theorem WSq.later (h : WSq w B a N) (hb : Below w.heap.size w w2) : WSq w2 B a N := by
  rcases h with h | ⟨g, cur, e, h1, h2, h3⟩
  · exact .inl h
  · exact .inr ⟨g, cur, e, h1, (hb.block _ (Array.getElem?_eq_some_iff.1 h2).1).trans h2, fun i hi => by
      obtain ⟨ra, rc, h4, h5⟩ := h3 i hi
      exact ⟨ra, rc, h4, h5.later hb⟩⟩
theorem RowsOwn.wsq {L : List (List Int)} {c : Nat} (h : RowsOwn w B (.slice a L.length c) L) (hN : L.length = N) (hr : ∀ (i : Nat) (r : List Int), L[i]? = some r → r.length = N) : WSq w B a N := by
  subst hN
  obtain ⟨V, h1, h2⟩ := h
  have h9 := h1
  rcases h1.2 with ⟨_, h0⟩ | ⟨g, cap, cur, hv, hb, hg, hc, _, hs, hx⟩
  · exact .inl h0
  · injection hv with e1 _ _
    subst e1
    refine .inr ⟨g, cur, rfl, hb, hg, fun i hi => ?_⟩
    have hl : L[i]? = some (L[i]'hi) := List.getElem?_eq_getElem hi
    have hrow := h2 i _ hl
    have hlen := hr i _ hl
    obtain ⟨ra, rc, e2⟩ := owns_shape hrow
    rw [e2] at hrow
    have hw := own_wrow hrow
    rw [hlen, Nat.mul_one] at hw
    refine ⟨ra, rc, ?_, hw⟩
    have hcell := World.ownsRow.cellAt h9 i (by omega)
    have e3 : w.cell? ⟨g, i, none⟩ = cur[i]? := by simp [World.cell?, hg]
    rw [← e3, hcell]
    simp [hi, e2, hlen]
/-- What the law has of the clone: its box, its rows. -/
structure YW (W3 wr : World) (B gy : Nat) (A : InA) (x : Ins) (N : Nat) : Prop where
  below : Below B W3 wr
  ge : B ≤ gy
  y : wr.heap[gy]? = some (.cells (insC A x) 28 (0, 0))
  sats : WRow wr B 42 A.sa (x.sats.length * 2)
  cus : WRow wr B 44 A.ca (x.cus.length * 4)
  cost : WSq wr B A.ka N
  time : WSq wr B A.ta N
theorem YW.set_ (h : YW W3 wr B gy A2 x N) (hb : wr.heap[b]? = some (.cells cb Tb (0, 0))) (hB : B ≤ b) (h1 : ¬ Tb = 45) (h2 : ¬ Tb = 28) (i : Nat) (u : Value) : YW W3 (wr.setCell ⟨b, i, none⟩ u) B gy A2 x N :=
  ⟨h.below.setCell (p := ⟨b, i, none⟩) hB _, h.ge, (heap_setCell_other _ _ _ _ (fun e => by
    have e2 : gy = b := e
    subst e2
    have hy := h.y
    rw [hb] at hy
    injection hy with hy
    injection hy with _ hT
    exact h2 hT)).trans h.y, h.sats.set_ hb i u, h.cus.set_ hb i u, h.cost.set_ hb h1 i u, h.time.set_ hb h1 i u⟩
theorem YW.later (h : YW W3 wr B gy A2 x N) (hb : Below wr.heap.size wr w2) (hB : B ≤ wr.heap.size) : YW W3 w2 B gy A2 x N :=
  ⟨h.below.trans (hb.mono hB), h.ge, (hb.block _ (Array.getElem?_eq_some_iff.1 h.y).1).trans h.y, h.sats.later hb, h.cus.later hb, h.cost.later hb, h.time.later hb⟩
theorem YW.cells (h : YW W3 wr B gy A2 x N) : wr.cell? ⟨gy, 5, none⟩ = some (.slice A2.sa x.sats.length A2.sc) ∧ wr.cell? ⟨gy, 6, none⟩ = some (.slice A2.ca x.cus.length A2.cc) ∧ wr.cell? ⟨gy, 7, none⟩ = some (.slice A2.ka x.cost.length A2.kc) ∧ wr.cell? ⟨gy, 8, none⟩ = some (.slice A2.ta x.time.length A2.tc) := by
  simp [World.cell?, h.y]
theorem YW.two {k : Nat} (h : YW W3 wr B gy A2 x N) (hi : i < N) (hk : k < N) (u : Value) : ∃ g1 p1 c1 g2 p2 c2 v1 v2, A2.ka = some ⟨g1, 0, none⟩ ∧ A2.ta = some ⟨g2, 0, none⟩ ∧ wr.cell? ⟨g1, i, none⟩ = some (.slice (some ⟨p1, 0, none⟩) N c1) ∧ wr.cell? ⟨g2, i, none⟩ = some (.slice (some ⟨p2, 0, none⟩) N c2) ∧ wr.cell? ⟨p1, k, none⟩ = some v1 ∧ wr.frozen? ⟨p1, k, none⟩ = false ∧
    (wr.setCell ⟨p1, k, none⟩ u).cell? ⟨g2, i, none⟩ = some (.slice (some ⟨p2, 0, none⟩) N c2) ∧ (wr.setCell ⟨p1, k, none⟩ u).cell? ⟨p2, k, none⟩ = some v2 ∧ (wr.setCell ⟨p1, k, none⟩ u).frozen? ⟨p2, k, none⟩ = false ∧ YW W3 (wr.setCell ⟨p1, k, none⟩ u) B gy A2 x N ∧ YW W3 ((wr.setCell ⟨p1, k, none⟩ u).setCell ⟨p2, k, none⟩ u) B gy A2 x N := by
  have hK := h.cost
  have hT := h.time
  rcases hK with hK | ⟨g1, q1, e1, _, _, f1⟩
  · omega
  · rcases hT with hT | ⟨g2, q2, e2, _, b2, f2⟩
    · omega
    · obtain ⟨g1', ra1, rc1, e1', c1, r1⟩ := h.cost.at_ hi
      obtain ⟨ra2, rc2, c2, r2⟩ := f2 i hi
      obtain ⟨p1, v1, cur1, er1, hB1, d1, z1, hb1⟩ := r1.at_ hk
      subst er1
      have hy1 := h.set_ hb1 hB1 (by decide) (by decide) k u
      have r2' := r2.set_ hb1 k u
      obtain ⟨p2, v2, cur2, er2, hB2, d2, z2, hb2⟩ := r2'.at_ hk
      subst er2
      have hne : ¬ g2 = p1 := fun e => by
        subst e
        rw [b2] at hb1
        injection hb1 with hb1
        injection hb1 with _ hT
        exact absurd hT (by decide)
      have hb2' : (wr.setCell ⟨p1, k, none⟩ u).heap[g2]? = some (.cells q2 45 (0, 0)) := (heap_setCell_other _ _ _ _ (fun h => hne (show g2 = p1 from h))).trans b2
      exact ⟨g1', p1, rc1, g2, p2, rc2, v1, v2, e1', e2, c1, by simp [World.cell?, b2, c2], d1, z1, by simp [World.cell?, hb2', c2], d2, z2, hy1, hy1.set_ hb2 hB2 (by decide) (by decide) k u⟩
end Go.Proofs.Ytkapknfcepcijaa
