/- The law on more arcs: what lies in memory, what it means. -/
import Derived.Test.YtmmhdjibigopfaaPathFroms
import Derived.Test.YtmmhdjibigopfaaLinkRow
namespace Go.Proofs.Ytmmhdjibigopfaa
open Go.RowKit

variable {w wr w2 : World} {len cap N q g g1 gm m lc k gf cf i : Nat} {l xs : List Ar} {a la : Option Addr} {mo y : Ar} {far far2 : Nat → Option Int} {vb : Value} {d : Int}
theorem arcsTo_all (hl : l.length = len) (h : len ≤ 24) (n : Int) : arcsTo n l len = l.map (arcOf n) := by
  have e1 : l.take 24 = l := List.take_of_length_le (by omega)
  have e2 : l.take len = l := List.take_of_length_le (by omega)
  rw [arcsTo, e1, e2]
theorem arcsTo_ext (hl : l.length = len) (h : len < 24) (n : Int) : arcsTo n (l ++ [mo]) (len + 1) = arcsTo n l len ++ [arcOf n mo] := by
  rw [arcsTo_all (by simp [hl]) (by omega), arcsTo_all hl (by omega), List.map_append]
  rfl
/-- With one arc more no node is farther. -/
theorem short_le (h : Dist xs q far) (h2 : Dist (xs ++ [y]) q far2) (hs : Small far2) (i : Nat) : valI far2 i ≤ valI far i := by
  cases e : far i with
  | none =>
    rw [valI_none e]
    cases e2 : far2 i with
    | none => rw [valI_none e2]; exact Int.le_refl _
    | some d =>
      rw [valI_some e2]
      have := hs i d e2
      omega
  | some d =>
    obtain ⟨k, hw⟩ := h.att i d e
    obtain ⟨d', e2, h3⟩ := h2.low i k d (hw.sub (fun x hx => by simp [hx]))
    rw [valI_some e, valI_some e2]
    exact h3
theorem kept_alloc {b : Nat} {o : Obj} (h : w.heap[b]? = some o) (hb : Below w.heap.size w w2) (o2 : Obj) : (w2.alloc o2).heap[b]? = some o := by
  have hlt := (Array.getElem?_eq_some_iff.1 h).1
  exact (Below.heap_alloc _ _ _ (Nat.lt_of_lt_of_le hlt hb.size)).trans ((hb.block b hlt).trans h)
/-- The graph's box, the tree's, its row; the arc that is to come. -/
structure ShortW (w wr : World) (g g1 gm N : Nat) (la : Option Addr) (m lc : Nat) (xs : List Ar) (gf cf : Nat) (vb : Value) (far : Nat → Option Int) (mo : Ar) : Prop where
  fw : FromW w wr g g1 N la m lc xs (.slice (some ⟨gf, 0, none⟩) N cf) vb
  far : LongRow wr 0 (.slice (some ⟨gf, 0, none⟩) N cf) N (valI far)
  mc : wr.heap[gm]? = some (.cells #[.int .u8 mo.1, .int .u8 mo.2.1, .int .i16 mo.2.2] 50 (0, 0))
theorem ShortW.later (h : ShortW w wr g g1 gm N la m lc xs gf cf vb far mo) (hb : Below wr.heap.size wr w2) : ShortW w w2 g g1 gm N la m lc xs gf cf vb far mo :=
  ⟨h.fw.later hb, h.far.below hb, (hb.block gm (Array.getElem?_eq_some_iff.1 h.mc).1).trans h.mc⟩
/-- The cells of the arc that is to come. -/
def MoreS (gm : Nat) (f t c : Int) (W : World) : Prop := W.cell? ⟨gm, 0, none⟩ = some (.int .u8 f) ∧ W.cell? ⟨gm, 1, none⟩ = some (.int .u8 t) ∧ W.cell? ⟨gm, 2, none⟩ = some (.int .i16 c)
theorem ShortW.more (h : ShortW w wr g g1 gm N la m lc xs gf cf vb far mo) : MoreS gm mo.1 mo.2.1 mo.2.2 wr := ⟨by simp [World.cell?, h.mc], by simp [World.cell?, h.mc], by simp [World.cell?, h.mc]⟩
theorem newsL_at (w : World) (y : Ar) (T : TypeId) (z : Nat) (hz : w.heap.size = z) : ∀ (j : Nat) (u : Value), (encL y)[j]? = some u → (w.alloc (.cells #[.int .u8 y.1, .int .u8 y.2.1, .int .i16 y.2.2] T)).cell? ((⟨z, 0, none⟩ : Addr).add j) = some u := by
  subst hz
  intro j u hj
  rw [Addr.add_lit]
  match j, hj with
  | 0, hj => simp [encL] at hj; subst hj; simp
  | 1, hj => simp [encL] at hj; subst hj; simp
  | 2, hj => simp [encL] at hj; subst hj; simp
theorem newsL_later {y : Ar} {z : Nat} (h : ∀ (j : Nat) (u : Value), (encL y)[j]? = some u → w.cell? ((⟨z, 0, none⟩ : Addr).add j) = some u) (hz : z < w.heap.size) (hb : Below w.heap.size w w2) : ∀ (j : Nat) (u : Value), (encL y)[j]? = some u → w2.cell? ((⟨z, 0, none⟩ : Addr).add j) = some u := by
  intro j u hj
  have := h j u hj
  rw [Addr.add_lit] at this ⊢
  exact (hb.cell (p := ⟨z, 0 + j, none⟩) hz).trans this
/-- .. and the second tree. -/
structure Short2 (w wr : World) (g g1 gm g2 N : Nat) (la : Option Addr) (m lc : Nat) (xs : List Ar) (gf cf : Nat) (vb : Value) (far : Nat → Option Int) (mo : Ar) (gf2 cf2 : Nat) (vb2 : Value) (far2 : Nat → Option Int) : Prop where
  one : ShortW w wr g g1 gm N la m lc xs gf cf vb far mo
  far2 : LongRow wr 0 (.slice (some ⟨gf2, 0, none⟩) N cf2) N (valI far2)
  tb2 : wr.heap[g2]? = some (.cells #[.slice (some ⟨gf2, 0, none⟩) N cf2, vb2] 31 (0, 0))
theorem Short2.later {g2 gf2 cf2 : Nat} {vb2 : Value} (h : Short2 w wr g g1 gm g2 N la m lc xs gf cf vb far mo gf2 cf2 vb2 far2) (hb : Below wr.heap.size wr w2) : Short2 w w2 g g1 gm g2 N la m lc xs gf cf vb far mo gf2 cf2 vb2 far2 :=
  ⟨h.one.later hb, h.far2.below hb, (hb.block g2 (Array.getElem?_eq_some_iff.1 h.tb2).1).trans h.tb2⟩
theorem Short2.t0 {g2 gf2 cf2 : Nat} {vb2 : Value} (h : Short2 w wr g g1 gm g2 N la m lc xs gf cf vb far mo gf2 cf2 vb2 far2) : wr.cell? ⟨g2, 0, none⟩ = some (.slice (some ⟨gf2, 0, none⟩) N cf2) := by simp [World.cell?, h.tb2]
/-- What an arc of the tree tells. -/
theorem arc_far (h : Dist xs q far) (hx : xs[k]? = some y) {f t : Nat} (h1 : y.1 = (f : Int)) (h2 : y.2.1 = (t : Int)) (hd : far f = some d) : ¬ d + y.2.2 < valI far t := by
  obtain ⟨d', e, h3⟩ := h.fixed y (List.mem_of_getElem? hx) f t h1 h2 d hd
  rw [valI_some e]
  omega
end Go.Proofs.Ytmmhdjibigopfaa
