/- The law's own arcs, by small numbers; the graph that it makes of them. -/
import Derived.Test.YtgoegkajfhhcjaaCheck
import Derived.Test.YtgoegkajfhhcjaaOwn
import Derived.OneCell
import Derived.Deep.RegionHeld3
namespace Go.Proofs.Ytgoegkajfhhcjaa
open Go.RowKit

/-- The links lie one behind another, from offset off of block b on. -/
def LinkRow (w : World) (b off : Nat) (l : List Ar) : Prop := ∀ (k : Nat) (x : Ar), l[k]? = some x →
  w.cell? ⟨b, off + k * 3, none⟩ = some (.int .u8 x.1) ∧ w.cell? ⟨b, off + k * 3 + 1, none⟩ = some (.int .u8 x.2.1) ∧ w.cell? ⟨b, off + k * 3 + 2, none⟩ = some (.int .i16 x.2.2) ∧
  0 ≤ x.1 ∧ x.1 ≤ 255 ∧ 0 ≤ x.2.1 ∧ x.2.1 ≤ 255 ∧ -32768 ≤ x.2.2 ∧ x.2.2 ≤ 32767
def IsLinks (B : Nat) (w : World) (a : Option Addr) (len : Nat) (l : List Ar) : Prop := l.length = len ∧ (len = 0 ∨ ∃ b off, a = some ⟨b, off, none⟩ ∧ b < B ∧ LinkRow w b off l)
variable {w wr w2 w4 : World} {a : Option Addr} {len cap B B2 g r g' cap' k : Nat} {l xs : List Ar} {N : Int} {x y : Ar} {lv : Value} {o : Obj}
theorem LinkRow.of_block {b off : Nat} (h : LinkRow w b off l) (e : w2.heap[b]? = w.heap[b]?) : LinkRow w2 b off l := fun k x hk => by
  obtain ⟨h1, h2, h3, h4⟩ := h k x hk
  exact ⟨(World.cell?_of_block (w := w) (by exact e)).trans h1, (World.cell?_of_block (w := w) (by exact e)).trans h2, (World.cell?_of_block (w := w) (by exact e)).trans h3, h4⟩
theorem IsLinks.later (h : IsLinks B w a len l) (hb : Below B w w2) : IsLinks B w2 a len l := ⟨h.1, by
  rcases h.2 with h | ⟨b, off, e, h1, h2⟩
  · exact .inl h
  · exact .inr ⟨b, off, e, h1, h2.of_block (hb.block b h1)⟩⟩
theorem IsLinks.mono (h : IsLinks B w a len l) (hb : B ≤ B2) : IsLinks B2 w a len l := ⟨h.1, by
  rcases h.2 with h | ⟨b, off, e, h1, h2⟩
  · exact .inl h
  · exact .inr ⟨b, off, e, by omega, h2⟩⟩
theorem IsLinks.at_ (h : IsLinks B w a len l) (hk : k < len) : ∃ b off x, a = some ⟨b, off, none⟩ ∧ l[k]? = some x ∧
    w.cell? ⟨b, off + k * 3, none⟩ = some (.int .u8 x.1) ∧ w.cell? ⟨b, off + k * 3 + 1, none⟩ = some (.int .u8 x.2.1) ∧ w.cell? ⟨b, off + k * 3 + 2, none⟩ = some (.int .i16 x.2.2) ∧
    0 ≤ x.1 ∧ x.1 ≤ 255 ∧ 0 ≤ x.2.1 ∧ x.2.1 ≤ 255 ∧ -32768 ≤ x.2.2 ∧ x.2.2 ≤ 32767 := by
  obtain ⟨h1, h2⟩ := h
  subst h1
  rcases h2 with h2 | ⟨b, off, e, hb, hr⟩
  · omega
  · exact ⟨b, off, _, e, List.getElem?_eq_getElem hk, hr k _ (List.getElem?_eq_getElem hk)⟩

/-- The arc that the law makes of a link. -/
def arcOf (N : Int) (x : Ar) : Ar := (x.1 % N, x.2.1 % N, x.2.2)
/-- What it has made of the first k links: no more than 24 arcs. -/
def arcsTo (N : Int) (l : List Ar) (k : Nat) : List Ar := ((l.take 24).take k).map (arcOf N)
theorem arcsTo_on (hx : l[k]? = some x) (hk : k < 24) : arcsTo N l (k + 1) = arcsTo N l k ++ [arcOf N x] := by
  have : (l.take 24)[k]? = some x := by rw [List.getElem?_take, if_pos hk, hx]
  rw [arcsTo, List.take_add_one, this, List.map_append]
  rfl
theorem arcsTo_off (hk : 24 ≤ k) : arcsTo N l (k + 1) = arcsTo N l k := by
  have e : ∀ j, 24 ≤ j → (l.take 24).take j = l.take 24 := fun j hj => List.take_of_length_le (by rw [List.length_take]; omega)
  rw [arcsTo, arcsTo, e k hk, e (k + 1) (by omega)]
theorem arcsTo_len (N : Int) (l : List Ar) (k : Nat) : (arcsTo N l k).length ≤ 24 := by
  rw [arcsTo, List.length_map, List.length_take, List.length_take]
  omega
theorem arcsTo_mem (hx : y ∈ arcsTo N l k) : ∃ x ∈ l, y = arcOf N x := by
  rw [arcsTo, List.mem_map] at hx
  obtain ⟨x, hx, e⟩ := hx
  exact ⟨x, List.mem_of_mem_take (List.mem_of_mem_take hx), e.symm⟩

/-- Arcs, as cells. -/
def flatA (l : List Ar) : List Value := l.flatMap encA
theorem flatA_length (l : List Ar) : (flatA l).length = l.length * 3 := by
  induction l with
  | nil => rfl
  | cons x r ih => unfold flatA at ih ⊢; rw [List.flatMap_cons, List.length_append, ih, List.length_cons]; show 3 + _ = _; omega
theorem flatA_snoc (l : List Ar) (x : Ar) : flatA (l ++ [x]) = flatA l ++ encA x := by simp [flatA]
theorem flatA_get : ∀ (l : List Ar) (k : Nat) (x : Ar), l[k]? = some x → (flatA l)[k * 3]? = some (.int .i64 x.1) ∧ (flatA l)[k * 3 + 1]? = some (.int .i64 x.2.1) ∧ (flatA l)[k * 3 + 2]? = some (.int .i64 x.2.2)
  | [], k, x, h => by simp at h
  | y :: r, 0, x, h => by
    simp at h
    subst h
    exact ⟨rfl, rfl, rfl⟩
  | y :: r, k + 1, x, h => by
    have ih := flatA_get r k x (by simpa using h)
    unfold flatA at ih ⊢
    rw [List.flatMap_cons]
    have e1 : (k + 1) * 3 = (k * 3) + 1 + 1 + 1 := by omega
    rw [e1]
    exact ih
/-- A row of arcs of the call's own, as the graph's arcs. -/
theorem owns_arcs {n : Nat} (h : w.ownsRow B 35 3 (.slice a n cap) xs.length (flatA xs)) : n = xs.length ∧ IsArcs w.heap.size w a n xs := by
  rcases h.2 with ⟨e, h0⟩ | ⟨g, cap', cur, hv, hb, hg, _⟩
  · injection e with _ e2 _
    subst e2
    exact ⟨by omega, by omega, .inl rfl⟩
  · have hh := h
    injection hv with e1 e2 e3
    subst e1 e2 e3
    refine ⟨rfl, rfl, .inr ⟨g, 0, rfl, (Array.getElem?_eq_some_iff.1 hg).1, fun k x hk => ?_⟩⟩
    obtain ⟨q0, q1, q2⟩ := flatA_get xs k x hk
    have c0 := World.ownsRow.cells hh (g := g) rfl _ _ q0
    have c1 := World.ownsRow.cells hh (g := g) rfl _ _ q1
    have c2 := World.ownsRow.cells hh (g := g) rfl _ _ q2
    simp only [Addr.add_lit, Nat.zero_add] at c0 c1 c2
    simp only [Nat.zero_add]
    exact ⟨c0, c1, c2⟩

/-- What the law's maker has: its result's box; its graph's box; the arcs' row. -/
structure MakeW (w wr : World) (r g : Nat) (N : Int) (lv : Value) (xs : List Ar) : Prop where
  below : Below w.heap.size w wr
  res : wr.heap[r]? = some (.cells #[.int .i64 0, .slice none 0 0] 26 (0, 0))
  blk : wr.heap[g]? = some (.cells #[.int .i64 N, lv] 26 (0, 0))
  row : wr.ownsRow (g + 1) 35 3 lv xs.length (flatA xs)
  ge : w.heap.size ≤ r
  lt : r < g
theorem MakeW.ltg (h : MakeW w wr r g N lv xs) : g < wr.heap.size := (Array.getElem?_eq_some_iff.1 h.blk).1
theorem MakeW.later (h : MakeW w wr r g N lv xs) (hb : Below wr.heap.size wr w2) : MakeW w w2 r g N lv xs :=
  ⟨h.below.trans (hb.mono h.below.size), (hb.block r (by have := h.ltg; have := h.lt; omega)).trans h.res, (hb.block g h.ltg).trans h.blk, owns_below h.row hb, h.ge, h.lt⟩
theorem MakeW.c0 (h : MakeW w wr r g N lv xs) : wr.cell? ⟨g, 0, none⟩ = some (.int .i64 N) := by simp [World.cell?, h.blk]
theorem MakeW.c1 (h : MakeW w wr r g N lv xs) : wr.cell? ⟨g, 1, none⟩ = some lv := by simp [World.cell?, h.blk]
/-- One arc more. -/
theorem MakeW.push (h : MakeW w wr r g N lv xs) (hown : w4.ownsRow (g + 1) 35 3 (.slice (some ⟨g', 0, none⟩) (xs.length + 1) cap') (xs.length + 1) (flatA xs ++ encA y)) (hgrow : wr.grownBy w4 lv.ownBlock) :
    MakeW w (w4.setCell ⟨g, 1, none⟩ (.slice (some ⟨g', 0, none⟩) (xs.length + 1) cap')) r g N (.slice (some ⟨g', 0, none⟩) (xs.length + 1) cap') (xs ++ [y]) ∧
    w4.cell? ⟨g, 0, none⟩ = some (.int .i64 N) ∧ w4.cell? ⟨g, 1, none⟩ = some lv ∧ w4.frozen? ⟨g, 1, none⟩ = false := by
  have hm : Mod (fun k => lv.ownBlock = some k) wr w4 := (Mod.refl _ wr).grown hgrow (fun k hk => .inr hk)
  have hC : ∀ k, lv.ownBlock = some k → g + 1 ≤ k := fun k hk => (World.ownsRow.lt h.row k hk).1
  have hge := h.ge
  have hlt := h.lt
  have hb4 : w4.heap[g]? = some (.cells #[.int .i64 N, lv] 26 (0, 0)) := (hm.block g h.ltg (fun e => by have := hC _ e; omega)).trans h.blk
  have hr4 : w4.heap[r]? = some (.cells #[.int .i64 0, .slice none 0 0] 26 (0, 0)) := (hm.block r (by have := h.ltg; omega) (fun e => by have := hC _ e; omega)).trans h.res
  have hbe : Below w.heap.size w w4 := ((Mod.of_below (fun k => lv.ownBlock = some k) h.below).trans hm).below (Nat.le_refl _) (fun k hk => by have := hC k hk; omega)
  refine ⟨⟨hbe.setCell (show w.heap.size ≤ g by omega) _, ?_, heap_setCell_same _ _ _ _ _ _ hb4, ?_, hge, hlt⟩, by simp [World.cell?, hb4], by simp [World.cell?, hb4], frozen_of_row _ _ 1 _ _ hb4⟩
  · rw [heap_setCell_other _ _ _ _ (show r ≠ g by omega)]; exact hr4
  · rw [flatA_snoc, List.length_append]
    exact ownsRow_setCell_other hown (fun e => by have := (World.ownsRow.lt hown _ e).1; simp at this; omega) _
theorem MakeW.turn {xs2 : List Ar} (h : MakeW w wr r g N lv xs) (e : xs = xs2) : MakeW w wr r g N lv xs2 := e ▸ h
end Go.Proofs.Ytgoegkajfhhcjaa
