/- Two instances of the call's own, made in whatever order. -/
import Derived.Test.YtnnddmojcaicbaaDoorISetB
namespace Go.Proofs.YtnnddmojcaicbaaDoor
open Go.RowKit

variable {w wr w2 : World} {A3 : InA} {m : Ins} {D0 ga b B N C D : Nat} {u : Value} {VK VT : Nat → Nat} {LK LT : Nat → Nat → Int} {S P Q : Nat → Prop}
/-- Each block of an instance of the call's own. -/
def OwnAll (A : InA) (x : Ins) (N : Nat) (VK VT : Nat → Nat) (P : Nat → Prop) : Prop :=
  (∀ g, (Value.slice A.sa x.sats.length A.sc).ownBlock = some g → P g) ∧ (∀ g, (Value.slice A.ca x.cus.length A.cc).ownBlock = some g → P g) ∧ (∀ g, (Value.slice A.ka N A.kc).ownBlock = some g → P g) ∧ (∀ g, (Value.slice A.ta N A.tc).ownBlock = some g → P g) ∧ (∀ i, i < N → P (VK i)) ∧ ∀ i, i < N → P (VT i)
theorem OwnAll.imp (h : OwnAll A3 m N VK VT P) (hp : ∀ g, P g → Q g) : OwnAll A3 m N VK VT Q :=
  ⟨fun g e => hp _ (h.1 g e), fun g e => hp _ (h.2.1 g e), fun g e => hp _ (h.2.2.1 g e), fun g e => hp _ (h.2.2.2.1 g e), fun i hi => hp _ (h.2.2.2.2.1 i hi), fun i hi => hp _ (h.2.2.2.2.2 i hi)⟩
theorem OwnIns.all_lt (h : OwnIns B w A3 m N C D VK VT LK LT) : OwnAll A3 m N VK VT (fun g => g < w.heap.size) :=
  ⟨fun g e => (World.ownsRow.lt h.sats g e).2, fun g e => (World.ownsRow.lt h.cus g e).2, fun g e => (World.ownsRow.lt h.cost.outer g e).2, fun g e => (World.ownsRow.lt h.time.outer g e).2, fun i hi => (h.cost.row i hi).1.lt, fun i hi => (h.time.row i hi).1.lt⟩
theorem OwnIns.mod (h : OwnIns B w A3 m N C D VK VT LK LT) (hm : Mod S w w2) (hP : OwnAll A3 m N VK VT (fun g => ¬ S g)) : OwnIns B w2 A3 m N C D VK VT LK LT :=
  ⟨owns_kept h.sats hm hP.1, owns_kept h.cus hm hP.2.1, h.cost.mod hm hP.2.2.1 hP.2.2.2.2.1, h.time.mod hm hP.2.2.2.1 hP.2.2.2.2.2, h.ck, h.tk, h.nl, h.ap, h.sb, h.kb, h.bc, h.cd⟩
/-- An instance of the call's own, all its blocks below D0. -/
def AOwn (w : World) (D0 : Nat) (A : InA) (x : Ins) : Prop := ∃ B N C D VK VT LK LT, OwnIns B w A x N C D VK VT LK LT ∧ OwnAll A x N VK VT (fun g => g < D0)
theorem AOwn.make (h : OwnIns B w A3 m N C D VK VT LK LT) : AOwn w w.heap.size A3 m := ⟨B, N, C, D, VK, VT, LK, LT, h, h.all_lt⟩
theorem AOwn.later (h : AOwn w D0 A3 m) (hb : Below w.heap.size w w2) : AOwn w2 D0 A3 m := by
  obtain ⟨B, N, C, D, VK, VT, LK, LT, h1, h2⟩ := h
  exact ⟨B, N, C, D, VK, VT, LK, LT, h1.later hb, h2⟩
theorem AOwn.mod (h : AOwn w D0 A3 m) (hm : Mod S w w2) (hS : ∀ k, S k → D0 ≤ k) : AOwn w2 D0 A3 m := by
  obtain ⟨B, N, C, D, VK, VT, LK, LT, h1, h2⟩ := h
  exact ⟨B, N, C, D, VK, VT, LK, LT, h1.mod hm (h2.imp (fun g hg hs => by have := hS g hs; omega)), h2⟩
theorem AOwn.box (h : AOwn w D0 A3 m) {cb : Array Value} (hb : w.heap[b]? = some (.cells cb 38 (0, 0))) (i : Nat) (u : Value) : AOwn (w.setCell ⟨b, i, none⟩ u) D0 A3 m := by
  obtain ⟨B, N, C, D, VK, VT, LK, LT, h1, h2⟩ := h
  exact ⟨B, N, C, D, VK, VT, LK, LT, h1.keep hb (by decide) (by decide) (by decide) (by decide) i u, h2⟩
theorem AOwn.is_ (h : AOwn w D0 A3 m) : IsIns w.heap.size w A3 m := by
  obtain ⟨B, N, C, D, VK, VT, LK, LT, h1, _⟩ := h
  exact h1.is_
/-! ### The two instances made, in whatever order -/
abbrev Zc : Array Value := #[.int .i64 0, .int .i64 0, .int .i64 0, .int .i64 0, .int .i64 0, .slice none 0 0, .slice none 0 0, .slice none 0 0, .slice none 0 0]
theorem below_storeI {r : Nat} {y0 y1 y2 y3 y4 y5 y6 y7 y8 : Value} (hr : B ≤ r) : Below B wr (storeI wr r y0 y1 y2 y3 y4 y5 y6 y7 y8) := storeI_below (Below.refl _ _) hr
theorem OwnIns.storeI_ {r : Nat} {y0 y1 y2 y3 y4 y5 y6 y7 y8 v0 v1 v2 v3 v4 v5 v6 v7 v8 : Value} (h : OwnIns B w A3 m N C D VK VT LK LT) (hb : w.heap[r]? = some (.cells #[v0, v1, v2, v3, v4, v5, v6, v7, v8] 38 (0, 0))) : OwnIns B (storeI w r y0 y1 y2 y3 y4 y5 y6 y7 y8) A3 m N C D VK VT LK LT := by
  unfold storeI
  have k : ∀ {W : World} {c : Array Value}, W.heap[r]? = some (.cells c 38 (0, 0)) → OwnIns B W A3 m N C D VK VT LK LT → ∀ i u, OwnIns B (W.setCell ⟨r, i, none⟩ u) A3 m N C D VK VT LK LT ∧ ∃ c2, (W.setCell ⟨r, i, none⟩ u).heap[r]? = some (.cells c2 38 (0, 0)) := fun hc ho i u => ⟨ho.keep hc (by decide) (by decide) (by decide) (by decide) i u, _, heap_setCell_same _ _ _ _ _ _ hc⟩
  obtain ⟨h0, _, b0⟩ := k hb h 0 y0
  obtain ⟨h1, _, b1⟩ := k b0 h0 1 y1
  obtain ⟨h2, _, b2⟩ := k b1 h1 2 y2
  obtain ⟨h3, _, b3⟩ := k b2 h2 3 y3
  obtain ⟨h4, _, b4⟩ := k b3 h3 4 y4
  obtain ⟨h5, _, b5⟩ := k b4 h4 5 y5
  obtain ⟨h6, _, b6⟩ := k b5 h5 6 y6
  obtain ⟨h7, _, b7⟩ := k b6 h6 7 y7
  exact (k b7 h7 8 y8).1
theorem storeI_other {r b : Nat} {y0 y1 y2 y3 y4 y5 y6 y7 y8 : Value} (h : b ≠ r) : (storeI w r y0 y1 y2 y3 y4 y5 y6 y7 y8).heap[b]? = w.heap[b]? := by
  unfold storeI
  have k : ∀ (W : World) i u, (W.setCell ⟨r, i, none⟩ u).heap[b]? = W.heap[b]? := fun W i u => heap_setCell_other _ _ _ _ (fun e => h (show b = r from e))
  rw [k, k, k, k, k, k, k, k, k]
theorem AOwn.storeI_ {r : Nat} {y0 y1 y2 y3 y4 y5 y6 y7 y8 v0 v1 v2 v3 v4 v5 v6 v7 v8 : Value} (h : AOwn w D0 A3 m) (hb : w.heap[r]? = some (.cells #[v0, v1, v2, v3, v4, v5, v6, v7, v8] 38 (0, 0))) : AOwn (storeI w r y0 y1 y2 y3 y4 y5 y6 y7 y8) D0 A3 m := by
  obtain ⟨B, N, C, D, VK, VT, LK, LT, h1, h2⟩ := h
  exact ⟨B, N, C, D, VK, VT, LK, LT, h1.storeI_ hb, h2⟩
/-! ### A clone as what came in -/
end Go.Proofs.YtnnddmojcaicbaaDoor
