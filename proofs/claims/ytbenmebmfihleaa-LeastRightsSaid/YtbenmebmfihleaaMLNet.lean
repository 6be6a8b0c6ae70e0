/- Joined: LPipes, LEnds. -/
import Derived.Test.YtbenmebmfihleaaMFlowT
import Derived.OneCell
import Derived.Deep.RegionHeld3
import Derived.BigQuiet
import Derived.Deep.QuietTactic
section
/- The law's own pipes, by small numbers; the net that it makes of them. -/
namespace Go.Proofs.Ytbenmebmfihleaa
open Go.RowKit

/-- Small numbers. -/
def SmallP (x : Pi) : Prop := 0 ≤ x.1 ∧ x.1 ≤ 255 ∧ 0 ≤ x.2.1 ∧ x.2.1 ≤ 255 ∧ 0 ≤ x.2.2.1 ∧ x.2.2.1 ≤ 255 ∧ 0 ≤ x.2.2.2 ∧ x.2.2.2 ≤ 255
/-- The law's pipes lie one behind another, from offset off of block b on. -/
def LPRow (w : World) (b off : Nat) (l : List Pi) : Prop := ∀ (k : Nat) (x : Pi), l[k]? = some x →
  w.cell? ⟨b, off + k * 4, none⟩ = some (.int .u8 x.1) ∧ w.cell? ⟨b, off + k * 4 + 1, none⟩ = some (.int .u8 x.2.1) ∧ w.cell? ⟨b, off + k * 4 + 2, none⟩ = some (.int .u8 x.2.2.1) ∧ w.cell? ⟨b, off + k * 4 + 3, none⟩ = some (.int .u8 x.2.2.2) ∧ SmallP x
def IsLP (B : Nat) (w : World) (a : Option Addr) (len : Nat) (l : List Pi) : Prop := l.length = len ∧ (len = 0 ∨ ∃ b off, a = some ⟨b, off, none⟩ ∧ b < B ∧ LPRow w b off l)
variable {w wr w2 w4 : World} {a : Option Addr} {len cap B B2 g r g' cap' k : Nat} {l xs : List Pi} {N : Int} {x y : Pi} {lv : Value} {o : Obj}
theorem LPRow.of_block {b off : Nat} (h : LPRow w b off l) (e : w2.heap[b]? = w.heap[b]?) : LPRow w2 b off l := fun k x hk => by
  obtain ⟨h1, h2, h3, h4, h5⟩ := h k x hk
  exact ⟨(World.cell?_of_block (w := w) (by exact e)).trans h1, (World.cell?_of_block (w := w) (by exact e)).trans h2, (World.cell?_of_block (w := w) (by exact e)).trans h3, (World.cell?_of_block (w := w) (by exact e)).trans h4, h5⟩
theorem IsLP.later (h : IsLP B w a len l) (hb : Below B w w2) : IsLP B w2 a len l := ⟨h.1, by
  rcases h.2 with h | ⟨b, off, e, h1, h2⟩
  · exact .inl h
  · exact .inr ⟨b, off, e, h1, h2.of_block (hb.block b h1)⟩⟩
theorem IsLP.mono (h : IsLP B w a len l) (hb : B ≤ B2) : IsLP B2 w a len l := ⟨h.1, by
  rcases h.2 with h | ⟨b, off, e, h1, h2⟩
  · exact .inl h
  · exact .inr ⟨b, off, e, by omega, h2⟩⟩
theorem IsLP.at_ (h : IsLP B w a len l) (hk : k < len) : ∃ b off x, a = some ⟨b, off, none⟩ ∧ l[k]? = some x ∧
    w.cell? ⟨b, off + k * 4, none⟩ = some (.int .u8 x.1) ∧ w.cell? ⟨b, off + k * 4 + 1, none⟩ = some (.int .u8 x.2.1) ∧ w.cell? ⟨b, off + k * 4 + 2, none⟩ = some (.int .u8 x.2.2.1) ∧ w.cell? ⟨b, off + k * 4 + 3, none⟩ = some (.int .u8 x.2.2.2) ∧ SmallP x := by
  obtain ⟨h1, h2⟩ := h
  subst h1
  rcases h2 with h2 | ⟨b, off, e, hb, hr⟩
  · omega
  · exact ⟨b, off, _, e, List.getElem?_eq_getElem hk, hr k _ (List.getElem?_eq_getElem hk)⟩
theorem IsLP.small (h : IsLP B w a len l) : ∀ x ∈ l, SmallP x := by
  intro x hx
  rcases h.2 with h0 | ⟨b, off, _, _, hr⟩
  · have : l = [] := List.eq_nil_of_length_eq_zero (by rw [h.1]; exact h0)
    subst this
    cases hx
  · obtain ⟨k, hk⟩ := List.getElem?_of_mem hx
    exact (hr k x hk).2.2.2.2

/-- The pipe that the law makes of one. -/
def pipeOf (N : Int) (x : Pi) : Pi := (x.1 % N, x.2.1 % N, x.2.2.1, x.2.2.2)
/-- What it has made of the first k: no more than 14 pipes. -/
def pipesTo (N : Int) (l : List Pi) (k : Nat) : List Pi := ((l.take 14).take k).map (pipeOf N)
theorem pipesTo_on (hx : l[k]? = some x) (hk : k < 14) : pipesTo N l (k + 1) = pipesTo N l k ++ [pipeOf N x] := by
  have : (l.take 14)[k]? = some x := by rw [List.getElem?_take, if_pos hk, hx]
  rw [pipesTo, List.take_add_one, this, List.map_append]
  rfl
theorem pipesTo_off (hk : 14 ≤ k) : pipesTo N l (k + 1) = pipesTo N l k := by
  have e : ∀ j, 14 ≤ j → (l.take 14).take j = l.take 14 := fun j hj => List.take_of_length_le (by rw [List.length_take]; omega)
  rw [pipesTo, pipesTo, e k hk, e (k + 1) (by omega)]
theorem pipesTo_len (N : Int) (l : List Pi) (k : Nat) : (pipesTo N l k).length ≤ 14 := by
  rw [pipesTo, List.length_map, List.length_take, List.length_take]
  omega
theorem pipesTo_mem (hx : y ∈ pipesTo N l k) : ∃ x ∈ l, y = pipeOf N x := by
  rw [pipesTo, List.mem_map] at hx
  obtain ⟨x, hx, e⟩ := hx
  exact ⟨x, List.mem_of_mem_take (List.mem_of_mem_take hx), e.symm⟩
/-- What the law makes: a net that may be, with small rooms. -/
theorem pipes_small {N : Nat} (hN : 1 ≤ N) (hl : ∀ x ∈ l, SmallP x) (k : Nat) : ∀ y ∈ pipesTo (N : Int) l k, ((0 ≤ y.1 ∧ y.1 < (N : Int)) ∧ (0 ≤ y.2.1 ∧ y.2.1 < (N : Int))) ∧ (0 ≤ y.2.2.1 ∧ y.2.2.1 ≤ 255) ∧ (0 ≤ y.2.2.2 ∧ y.2.2.2 ≤ 255) := fun y hy => by
  obtain ⟨x, hx, rfl⟩ := pipesTo_mem hy
  have := hl x hx
  have h1 := Int.emod_nonneg x.1 (show (N : Int) ≠ 0 by omega)
  have h2 := Int.emod_lt_of_pos x.1 (show (0 : Int) < (N : Int) by omega)
  have h3 := Int.emod_nonneg x.2.1 (show (N : Int) ≠ 0 by omega)
  have h4 := Int.emod_lt_of_pos x.2.1 (show (0 : Int) < (N : Int) by omega)
  unfold SmallP at this
  simp only [pipeOf]
  exact ⟨⟨⟨h1, h2⟩, ⟨h3, h4⟩⟩, by omega, by omega⟩
theorem pipes_check {N : Nat} (hN : 1 ≤ N) (hN6 : N ≤ 6) (hl : ∀ x ∈ l, SmallP x) (k : Nat) : checkP (N : Int) (pipesTo (N : Int) l k) = 0 := by
  refine checkP_zero.2 ⟨⟨by omega, by omega, Nat.le_trans (pipesTo_len _ _ _) (by omega)⟩, fun y hy => ?_⟩
  have := pipes_small hN hl k y hy
  exact okP_true.2 ⟨this.1.1, this.1.2, by omega, by omega⟩

/-- Pipes, as cells. -/
def flatP (l : List Pi) : List Value := l.flatMap encP
theorem flatP_length (l : List Pi) : (flatP l).length = l.length * 4 := by
  induction l with
  | nil => rfl
  | cons x r ih => unfold flatP at ih ⊢; rw [List.flatMap_cons, List.length_append, ih, List.length_cons]; show 4 + _ = _; omega
theorem flatP_snoc (l : List Pi) (x : Pi) : flatP (l ++ [x]) = flatP l ++ encP x := by simp [flatP]
theorem flatP_get : ∀ (l : List Pi) (k : Nat) (x : Pi), l[k]? = some x → (flatP l)[k * 4]? = some (.int .i64 x.1) ∧ (flatP l)[k * 4 + 1]? = some (.int .i64 x.2.1) ∧ (flatP l)[k * 4 + 2]? = some (.int .i64 x.2.2.1) ∧ (flatP l)[k * 4 + 3]? = some (.int .i64 x.2.2.2)
  | [], k, x, h => by simp at h
  | y :: r, 0, x, h => by
    simp at h
    subst h
    exact ⟨rfl, rfl, rfl, rfl⟩
  | y :: r, k + 1, x, h => by
    have ih := flatP_get r k x (by simpa using h)
    unfold flatP at ih ⊢
    rw [List.flatMap_cons]
    have e1 : (k + 1) * 4 = (k * 4) + 1 + 1 + 1 + 1 := by omega
    rw [e1]
    exact ih
/-- A row of pipes of the call's own, as the net's pipes. -/
theorem owns_pipes {n : Nat} (h : w.ownsRow B 47 4 (.slice a n cap) xs.length (flatP xs)) : n = xs.length ∧ IsPipes w.heap.size w a n xs := by
  rcases h.2 with ⟨e, h0⟩ | ⟨g, cap', cur, hv, hb, hg, _⟩
  · injection e with _ e2 _
    subst e2
    exact ⟨by omega, by omega, .inl rfl⟩
  · have hh := h
    injection hv with e1 e2 e3
    subst e1 e2 e3
    refine ⟨rfl, rfl, .inr ⟨g, 0, rfl, (Array.getElem?_eq_some_iff.1 hg).1, fun k x hk => ?_⟩⟩
    obtain ⟨q0, q1, q2, q3⟩ := flatP_get xs k x hk
    have c0 := World.ownsRow.cells hh (g := g) rfl _ _ q0
    have c1 := World.ownsRow.cells hh (g := g) rfl _ _ q1
    have c2 := World.ownsRow.cells hh (g := g) rfl _ _ q2
    have c3 := World.ownsRow.cells hh (g := g) rfl _ _ q3
    simp only [Addr.add_lit, Nat.zero_add] at c0 c1 c2 c3
    simp only [Nat.zero_add]
    exact ⟨c0, c1, c2, c3⟩

/-- What the law's maker has: its result's box; its net's box; the pipes' row. -/
structure NMakeW (w wr : World) (r g : Nat) (N : Int) (lv : Value) (xs : List Pi) : Prop where
  below : Below w.heap.size w wr
  res : wr.heap[r]? = some (.cells #[.int .i64 0, .slice none 0 0] 27 (0, 0))
  blk : wr.heap[g]? = some (.cells #[.int .i64 N, lv] 27 (0, 0))
  row : wr.ownsRow (g + 1) 47 4 lv xs.length (flatP xs)
  ge : w.heap.size ≤ r
  lt : r < g
theorem NMakeW.ltg (h : NMakeW w wr r g N lv xs) : g < wr.heap.size := (Array.getElem?_eq_some_iff.1 h.blk).1
theorem NMakeW.later (h : NMakeW w wr r g N lv xs) (hb : Below wr.heap.size wr w2) : NMakeW w w2 r g N lv xs :=
  ⟨h.below.trans (hb.mono h.below.size), (hb.block r (by have := h.ltg; have := h.lt; omega)).trans h.res, (hb.block g h.ltg).trans h.blk, owns_below h.row hb, h.ge, h.lt⟩
theorem NMakeW.c0 (h : NMakeW w wr r g N lv xs) : wr.cell? ⟨g, 0, none⟩ = some (.int .i64 N) := by simp [World.cell?, h.blk]
theorem NMakeW.c1 (h : NMakeW w wr r g N lv xs) : wr.cell? ⟨g, 1, none⟩ = some lv := by simp [World.cell?, h.blk]
/-- One pipe more. -/
theorem NMakeW.push (h : NMakeW w wr r g N lv xs) (hown : w4.ownsRow (g + 1) 47 4 (.slice (some ⟨g', 0, none⟩) (xs.length + 1) cap') (xs.length + 1) (flatP xs ++ encP y)) (hgrow : wr.grownBy w4 lv.ownBlock) :
    NMakeW w (w4.setCell ⟨g, 1, none⟩ (.slice (some ⟨g', 0, none⟩) (xs.length + 1) cap')) r g N (.slice (some ⟨g', 0, none⟩) (xs.length + 1) cap') (xs ++ [y]) ∧
    w4.cell? ⟨g, 0, none⟩ = some (.int .i64 N) ∧ w4.cell? ⟨g, 1, none⟩ = some lv ∧ w4.frozen? ⟨g, 1, none⟩ = false := by
  have hm : Mod (fun k => lv.ownBlock = some k) wr w4 := (Mod.refl _ wr).grown hgrow (fun k hk => .inr hk)
  have hC : ∀ k, lv.ownBlock = some k → g + 1 ≤ k := fun k hk => (World.ownsRow.lt h.row k hk).1
  have hge := h.ge
  have hlt := h.lt
  have hb4 : w4.heap[g]? = some (.cells #[.int .i64 N, lv] 27 (0, 0)) := (hm.block g h.ltg (fun e => by have := hC _ e; omega)).trans h.blk
  have hr4 : w4.heap[r]? = some (.cells #[.int .i64 0, .slice none 0 0] 27 (0, 0)) := (hm.block r (by have := h.ltg; omega) (fun e => by have := hC _ e; omega)).trans h.res
  have hbe : Below w.heap.size w w4 := ((Mod.of_below (fun k => lv.ownBlock = some k) h.below).trans hm).below (Nat.le_refl _) (fun k hk => by have := hC k hk; omega)
  refine ⟨⟨hbe.setCell (show w.heap.size ≤ g by omega) _, ?_, heap_setCell_same _ _ _ _ _ _ hb4, ?_, hge, hlt⟩, by simp [World.cell?, hb4], by simp [World.cell?, hb4], frozen_of_row _ _ 1 _ _ hb4⟩
  · rw [heap_setCell_other _ _ _ _ (show r ≠ g by omega)]; exact hr4
  · rw [flatP_snoc, List.length_append]
    exact ownsRow_setCell_other hown (fun e => by have := (World.ownsRow.lt hown _ e).1; simp at this; omega) _
theorem NMakeW.turn {xs2 : List Pi} (h : NMakeW w wr r g N lv xs) (e : xs = xs2) : NMakeW w wr r g N lv xs2 := e ▸ h
end Go.Proofs.Ytbenmebmfihleaa
end
section
/- The law's two nodes. -/
namespace Go.Proofs.Ytbenmebmfihleaa
open Go.RowKit

set_option maxHeartbeats 2000000 in
theorem ends_law (N : Nat) (hN : 2 ≤ N) (hN6 : N ≤ 6) (p q : Int) (hp : 0 ≤ p ∧ p ≤ 255) (hq : 0 ≤ q ∧ q ≤ 255) (a : Option Addr) (len cap : Nat) (w : World) :
    Calls Try.prog 10 #[.agg #[.int .i64 (N : Int), .slice a len cap], .int .u8 p, .int .u8 q] w fun e w' => Below w.heap.size w w' ∧ ∃ s t : Nat, e = .returned (.tuple #[.int .i64 (s : Int), .int .i64 (t : Int)]) ∧ s < N ∧ t < N ∧ s ≠ t := by
  have HG := Lib.hid (NBox.make (Below.refl _ w) (N : Int) a len cap)
  obtain ⟨hp1, hp2⟩ := hp
  obtain ⟨hq1, hq2⟩ := hq
  have hN0 : ¬ (N : Int) = 0 := by omega
  have hNb : ((N : Int) == 0) = false := by simp; omega
  have hM0 : ¬ (N : Int) - 1 = 0 := by omega
  have hMb : ((N : Int) - 1 == 0) = false := by simp; omega
  obtain ⟨s, hs⟩ : ∃ s : Nat, p % (N : Int) = (s : Int) := ⟨(p % (N : Int)).toNat, by have := Int.emod_nonneg p hN0; omega⟩
  obtain ⟨d, hd⟩ : ∃ d : Nat, q % ((N : Int) - 1) = (d : Int) := ⟨(q % ((N : Int) - 1)).toNat, by have := Int.emod_nonneg q hM0; omega⟩
  have hsN : s < N := by have := Int.emod_lt_of_pos p (show (0 : Int) < (N : Int) by omega); omega
  have hdN : d + 1 < N := by have := Int.emod_lt_of_pos q (show (0 : Int) < (N : Int) - 1 by omega); omega
  have HS := Lib.hid hs
  have HD := Lib.hid hd
  have x0 := HG.out.c0
  go_enter Try.func10, Try.ntmps10
  go_wp2_with fail
  go_quiet (fail)
  go_wp2_with fail
  go_ret2
  obtain ⟨t, ht⟩ : ∃ t : Nat, ((s : Int) + 1 + (d : Int)) % (N : Int) = (t : Int) := ⟨(((s : Int) + 1 + (d : Int)) % (N : Int)).toNat, by have := Int.emod_nonneg ((s : Int) + 1 + (d : Int)) hN0; omega⟩
  refine ⟨below_drewN HG.out.below nq, s, t, by rw [HS.out, ht]; rfl, hsN, ?_, ?_⟩
  · have := Int.emod_lt_of_pos ((s : Int) + 1 + (d : Int)) (show (0 : Int) < (N : Int) by omega)
    omega
  · intro e
    subst e
    by_cases h : s + 1 + d < N
    · rw [Int.emod_eq_of_lt (by omega) (by omega)] at ht
      omega
    · have h2 : ((s : Int) + 1 + (d : Int)) % (N : Int) = (s : Int) + 1 + (d : Int) - (N : Int) := by
        rw [← Int.sub_emod_right, Int.emod_eq_of_lt (by omega) (by omega)]
      omega
end Go.Proofs.Ytbenmebmfihleaa
end
