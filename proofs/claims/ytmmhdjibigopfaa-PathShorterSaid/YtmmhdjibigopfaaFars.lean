/- How far the nodes are, by the law's own rounds: what lies in memory, what it means. -/
import Derived.Test.YtmmhdjibigopfaaWalk
import Derived.Test.YtmmhdjibigopfaaLongsEq
import Derived.Deep.RegionHeld3
namespace Go.Proofs.Ytmmhdjibigopfaa
open Go.RowKit

/-- The number in memory: how far; 2 to the 60, where one doesn't come. -/
def valI (far : Nat → Option Int) (i : Nat) : Int := match far i with
  | some d => d
  | none => 1152921504606846976
variable {far far2 : Nat → Option Int} {l : List Ar} {s i N r q : Nat} {d p : Int}
theorem valI_some (h : far i = some d) : valI far i = d := by simp [valI, h]
theorem valI_none (h : far i = none) : valI far i = 1152921504606846976 := by simp [valI, h]
theorem okA_weight (hok : ∀ x ∈ l, okA (N : Int) x = true) : ∀ x ∈ l, -1099511627776 ≤ x.2.2 ∧ x.2.2 ≤ 1099511627776 := fun x hx => (okA_true.1 (hok x hx)).2.2
theorem walk_small {k : Nat} (hok : ∀ x ∈ l, okA (N : Int) x = true) (h : Walk l s i k d) (hk : k ≤ 1002) : -1102000000000000 ≤ d ∧ d ≤ 1102000000000000 := by
  have h1 := h.bound (okA_weight hok)
  have h2 : (k : Int) * 1099511627776 ≤ 1002 * 1099511627776 := Int.mul_le_mul_of_nonneg_right (by omega) (by omega)
  omega
/-- What is told is small. -/
def Small (far : Nat → Option Int) : Prop := ∀ i d, far i = some d → -1102000000000000 ≤ d ∧ d ≤ 1102000000000000
theorem Near.small (h : Near l s far r) (hok : ∀ x ∈ l, okA (N : Int) x = true) (hr : r ≤ 1002) : Small far := fun i d e => by
  obtain ⟨k, hk, hw⟩ := h.att i d e
  exact walk_small hok hw (by omega)
theorem Mid.small {now : Nat → Option Int} (h : Mid l s now far r q) (hok : ∀ x ∈ l, okA (N : Int) x = true) (hr : r ≤ 1001) : Small far := fun i d e => by
  obtain ⟨k, hk, hw⟩ := h.att i d e
  exact walk_small hok hw (by omega)
theorem Small.ne (h : Small far) (e : far i = some d) : valI far i ≠ 1152921504606846976 := by
  have := h i d e
  rw [valI_some e]
  omega
theorem valI_inj (h : Small far) (h2 : Small far2) (e : valI far i = valI far2 i) : far i = far2 i := by
  cases e1 : far i with
  | none =>
    cases e2 : far2 i with
    | none => rfl
    | some d =>
      rw [valI_none e1, valI_some e2] at e
      have := h2 i d e2
      omega
  | some d =>
    cases e2 : far2 i with
    | none =>
      rw [valI_some e1, valI_none e2] at e
      have := h i d e1
      omega
    | some d2 => rw [valI_some e1, valI_some e2] at e; rw [e]
theorem Near.past (h : Near l s far r) (hok : ∀ x ∈ l, okA (N : Int) x = true) (hs : s < N) (hi : ¬ i < N) : far i = none := by
  cases e : far i with
  | none => rfl
  | some d =>
    obtain ⟨k, _, hw⟩ := h.att i d e
    exact absurd (hw.lt hok hs) hi
/-- Two rounds that tell the same numbers. -/
theorem near_end (h : Near l s far r) (h2 : Near l s far2 (r + 1)) (hok : ∀ x ∈ l, okA (N : Int) x = true) (hs : s < N) (hr : r ≤ 1001) (he : sameN (valI far) (valI far2) N = true) : Dist l s far := by
  refine h.same h2 (fun i => ?_)
  by_cases hi : i < N
  · exact valI_inj (h.small hok (by omega)) (h2.small hok (by omega)) (sameN_true.1 he i hi)
  · rw [h.past hok hs hi, h2.past hok hs hi]
/-- .. that don't. -/
theorem near_on (h : Near l s far r) (h2 : Near l s far2 (r + 1)) (hok : ∀ x ∈ l, okA (N : Int) x = true) (hs : s < N) (he : sameN (valI far) (valI far2) N = false) (hr : N < r + 1) : Neg l s := by
  refine h.neg h2 hok hs (by omega) ?_
  have : ¬ ∀ i, i < N → valI far i = valI far2 i := fun hh => by rw [sameN_true.2 hh] at he; cases he
  obtain ⟨i, hi⟩ := Classical.not_forall.1 this
  refine ⟨i, fun e => hi (fun _ => ?_)⟩
  simp only [valI, e]
/-- The lesser one, in memory. -/
theorem minO_val {j : Nat} (hp : far2 i = some p) (hs : Small far2) (c : Int) (hc : -1099511627776 ≤ c ∧ c ≤ 1099511627776) (t : Nat) :
    (if t = j then (if p + c < valI far j then p + c else valI far j) else valI far t) = valI (fun t => if t = j then minO (far j) (some (p + c)) else far t) t := by
  have hb := hs i p hp
  by_cases e : t = j
  · subst e
    simp only [if_true]
    cases h : far t with
    | none =>
      rw [valI_none h, if_pos (by omega), valI_some (d := p + c) (by simp [minO])]
    | some d =>
      rw [valI_some h]
      by_cases hlt : p + c < d
      · rw [if_pos hlt, valI_some (d := p + c) (by simp [minO, hlt])]
      · rw [if_neg hlt, valI_some (d := d) (by simp [minO, hlt])]
  · rw [if_neg e]
    simp only [valI, e, if_false]

variable {w wr w2 : World} {a : Option Addr} {len cap g g1 g2 c1 c2 k : Nat} {v : Value} {f f2 : Nat → Int} {u : Int}
/-- The graph's box, and one row. -/
structure FarsW (w wr : World) (g N : Nat) (a : Option Addr) (len cap : Nat) (v : Value) (f : Nat → Int) : Prop where
  box : Box w wr g (N : Int) a len cap
  now : LongRow wr (g + 1) v N f
theorem FarsW.later (h : FarsW w wr g N a len cap v f) (hb : Below wr.heap.size wr w2) : FarsW w w2 g N a len cap v f := ⟨h.box.later hb, h.now.below hb⟩
theorem FarsW.set_ (h : FarsW w wr g N a len cap (.slice (some ⟨g1, 0, none⟩) N c1) f) (hk : k < N) (u : Int) : FarsW w (wr.setCell ⟨g1, k, none⟩ (.int .i64 u)) g N a len cap (.slice (some ⟨g1, 0, none⟩) N c1) (fun t => if t = k then u else f t) := by
  have h1 := h.now.base_.1
  have h2 := h.box.ge
  exact ⟨h.box.set_ (by omega) (by omega) _ _, h.now.set_ hk u⟩
theorem FarsW.congr (h : FarsW w wr g N a len cap v f) (e : ∀ i, i < N → f i = f2 i) : FarsW w wr g N a len cap v f2 := ⟨h.box, h.now.congr e⟩
theorem FarsW.made (h : Box w wr g (N : Int) a len cap) (hg : wr.heap.size = g1) (hN : N ≤ 1000000) : FarsW w (wr.alloc (.cells (madeCells #[.int .i64 0] N) 2)) g N a len cap (.slice (some ⟨g1, 0, none⟩) N N) (fun i => if i < 0 then 1152921504606846976 else 0) := by
  subst hg
  refine ⟨h.alloc _, ?_⟩
  have := World.ownsRow_lit (base := g + 1) (e := 2) (size := 1) wr (madeCells #[.int .i64 0] N) N h.lt (by unfold maxLen; omega) (by rw [size_madeCells]; omega)
  rw [toList_madeCells_one] at this
  have e : List.replicate N (Value.int .i64 0) = rowF N (fun i => if i < 0 then 1152921504606846976 else 0) := by
    simp only [Nat.not_lt_zero, if_false, rowF]
    rw [List.map_const', List.length_range]
  rw [e] at this
  exact this
/-- .. and a second row. -/
structure FarsI (w wr : World) (g N : Nat) (a : Option Addr) (len cap g1 c1 g2 c2 : Nat) (f f2 : Nat → Int) : Prop where
  one : FarsW w wr g N a len cap (.slice (some ⟨g1, 0, none⟩) N c1) f
  two : LongRow wr (g + 1) (.slice (some ⟨g2, 0, none⟩) N c2) N f2
  ne : g1 ≠ g2
theorem FarsI.later (h : FarsI w wr g N a len cap g1 c1 g2 c2 f f2) (hb : Below wr.heap.size wr w2) : FarsI w w2 g N a len cap g1 c1 g2 c2 f f2 := ⟨h.one.later hb, h.two.below hb, h.ne⟩
theorem FarsI.set_ (h : FarsI w wr g N a len cap g1 c1 g2 c2 f f2) (hk : k < N) (u : Int) : FarsI w (wr.setCell ⟨g2, k, none⟩ (.int .i64 u)) g N a len cap g1 c1 g2 c2 f (fun t => if t = k then u else f2 t) := by
  have h1 := h.two.base_.1
  have h2 := h.one.box.ge
  have h3 := h.ne
  have hm : Mod (fun b => b = g2) wr (wr.setCell ⟨g2, k, none⟩ (.int .i64 u)) := (Mod.refl (fun b => b = g2) wr).setCell (p := ⟨g2, k, none⟩) (.inr rfl) _
  refine ⟨⟨h.one.box.set_ (by omega) (by omega) _ _, h.one.now.kept hm (fun b hb e => ?_)⟩, h.two.set_ hk u, h3⟩
  cases hb
  exact h3 e
theorem FarsI.congr {f3 : Nat → Int} (h : FarsI w wr g N a len cap g1 c1 g2 c2 f f2) (e : ∀ i, i < N → f2 i = f3 i) : FarsI w wr g N a len cap g1 c1 g2 c2 f f3 := ⟨h.one, h.two.congr e, h.ne⟩
theorem FarsI.swap (h : FarsI w wr g N a len cap g1 c1 g2 c2 f f2) : FarsW w wr g N a len cap (.slice (some ⟨g2, 0, none⟩) N c2) f2 := ⟨h.one.box, h.two⟩
theorem FarsI.make (h : FarsW w wr g N a len cap (.slice (some ⟨g1, 0, none⟩) N c1) f) (hb : Below wr.heap.size wr w2) (hr : LongRow w2 wr.heap.size (.slice (some ⟨g2, 0, none⟩) N c2) N f2) : FarsI w w2 g N a len cap g1 c1 g2 c2 f f2 :=
  ⟨h.later hb, hr.rebase h.box.lt, by have h1 := h.now.base_.2; have h2 := hr.base_.1; omega⟩
/-- What the round's region reads that it doesn't write: the arc; how far its beginning is. -/
def FarS (ab g1 : Nat) (f t c p : Int) (j : Nat) (W : World) : Prop := W.cell? ⟨ab, 0, none⟩ = some (.int .i64 f) ∧ W.cell? ⟨ab, 1, none⟩ = some (.int .i64 t) ∧ W.cell? ⟨ab, 2, none⟩ = some (.int .i64 c) ∧ W.cell? ⟨g1, j, none⟩ = some (.int .i64 p) ∧ ab < W.heap.size ∧ g1 < W.heap.size
theorem FarS.mod {S : Nat → Prop} {ab j : Nat} {f t c p : Int} (h : FarS ab g1 f t c p j w) (hm : Mod S w w2) (h1 : ¬ S ab) (h2 : ¬ S g1) : FarS ab g1 f t c p j w2 :=
  ⟨(hm.cell (p := ⟨ab, 0, none⟩) h.2.2.2.2.1 h1).trans h.1, (hm.cell (p := ⟨ab, 1, none⟩) h.2.2.2.2.1 h1).trans h.2.1, (hm.cell (p := ⟨ab, 2, none⟩) h.2.2.2.2.1 h1).trans h.2.2.1, (hm.cell (p := ⟨g1, j, none⟩) h.2.2.2.2.2 h2).trans h.2.2.2.1, Nat.lt_of_lt_of_le h.2.2.2.2.1 hm.size, Nat.lt_of_lt_of_le h.2.2.2.2.2 hm.size⟩
theorem FarS.made {j : Nat} {p : Int} (hg : g1 < wr.heap.size) (hc : wr.cell? ⟨g1, j, none⟩ = some (.int .i64 p)) (f t c : Int) (T : TypeId) : FarS wr.heap.size g1 f t c p j (wr.alloc (.cells #[.int .i64 f, .int .i64 t, .int .i64 c] T)).drew := by
  refine ⟨by simp, by simp, by simp, ?_, by simp, by simp; omega⟩
  exact (World.cell?_alloc_past _ _ _ hg).trans hc
end Go.Proofs.Ytmmhdjibigopfaa
