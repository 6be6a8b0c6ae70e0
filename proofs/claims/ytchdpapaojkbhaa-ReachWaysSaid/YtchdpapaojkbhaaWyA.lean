/- Joined: WalkF, WaysT, MakeW, WaysR. -/
import Derived.Test.YtchdpapaojkbhaaNrA
import Derived.Test.YtchdpapaojkbhaaFarT
import Derived.Test.YtchdpapaojkbhaaGrA
import Derived.Test.YtchdpapaojkbhaaBase1
import Derived.OneCell
import Derived.Deep.RegionHeld3
import Derived.LoopTactic
section
/- Least sums over ways, out of a search over a graph's arcs. (Plain mathematics.) -/
namespace Go.Proofs.Ytchdpapaojkbhaa

variable {l : List Ar} {W : Nat → Nat → Option Int} {s N i k m : Nat} {far : Nat → Option Int} {dn : Nat → Bool} {d c : Int}
/-- The graph's arcs are those of W. -/
structure ArcsOf (l : List Ar) (W : Nat → Nat → Option Int) : Prop where
  arc : ∀ x ∈ l, ∃ i k : Nat, x.1 = (i : Int) ∧ x.2.1 = (k : Int) ∧ W i k = some x.2.2
  all : ∀ i k c, W i k = some c → ∃ x ∈ l, x.1 = (i : Int) ∧ x.2.1 = (k : Int) ∧ x.2.2 = c
theorem ArcsOf.walk (h : ArcsOf l W) (hw : WayF W s i m d) : Walk l s i m d := by
  induction hw with
  | nil => exact .nil
  | snoc _ hx ih =>
    obtain ⟨x, hm, h1, h2, h3⟩ := h.all _ _ _ hx
    subst h3
    exact ih.snoc hm h1 h2
theorem ArcsOf.way (h : ArcsOf l W) (hw : Walk l s i m d) : WayF W s i m d := by
  induction hw with
  | nil => exact .nil
  | snoc _ hx h1 h2 ih =>
    obtain ⟨a, b, g1, g2, g3⟩ := h.arc _ hx
    rename_i i j k d x _
    have : a = i := by omega
    subst this
    have : b = j := by omega
    subst this
    exact ih.snoc g3
/-- What the search ends with. -/
theorem ArcsOf.least (h : ArcsOf l W) (hn : NearB l s N far dn []) (hL : Led l far dn (fun _ => True)) (hok : ∀ x ∈ l, okA (N : Int) x = true) (hs : s < N) (hf : far i = some d) : LeastW W s i d := by
  obtain ⟨k, hk⟩ := hn.real i d hf
  refine ⟨⟨k, h.way hk⟩, fun k2 c hw => ?_⟩
  obtain ⟨e, he, hle⟩ := hn.least hL hok hs (h.walk hw)
  rw [hf] at he
  injection he with he
  omega
theorem ArcsOf.found (h : ArcsOf l W) (hn : NearB l s N far dn []) (hL : Led l far dn (fun _ => True)) (hok : ∀ x ∈ l, okA (N : Int) x = true) (hs : s < N) (hw : W s i = some c) : ∃ d, far i = some d ∧ LeastW W s i d := by
  obtain ⟨e, he, _⟩ := hn.least hL hok hs (h.walk (WayF.one hw))
  exact ⟨e, he, h.least hn hL hok hs he⟩
end Go.Proofs.Ytchdpapaojkbhaa
end
section
/- Arcs between all places, row by row. (Plain mathematics.) -/
namespace Go.Proofs.Ytchdpapaojkbhaa

variable {T : Nat → Nat → Int} {N i j k m : Nat} {x : Ar}
/-- From place i to the first j. -/
def wayRow (T : Nat → Nat → Int) (i j : Nat) : List Ar := (List.range j).filterMap (fun k => if i = k then none else some ((i : Int), (k : Int), T i k))
/-- From the first i places to all N. -/
def waysTo (T : Nat → Nat → Int) (N i : Nat) : List Ar := (List.range i).flatMap (fun a => wayRow T a N)
theorem wayRow_zero : wayRow T i 0 = [] := rfl
theorem wayRow_same : wayRow T i (i + 1) = wayRow T i i := by
  unfold wayRow
  rw [List.range_succ, List.filterMap_append]
  simp
theorem wayRow_succ (h : i ≠ j) : wayRow T i (j + 1) = wayRow T i j ++ [((i : Int), (j : Int), T i j)] := by
  unfold wayRow
  rw [List.range_succ, List.filterMap_append]
  simp [h]
theorem waysTo_zero : waysTo T N 0 = [] := rfl
theorem waysTo_succ : waysTo T N (i + 1) = waysTo T N i ++ wayRow T i N := by
  unfold waysTo
  rw [List.range_succ, List.flatMap_append]
  simp
theorem wayRow_len : (wayRow T i j).length ≤ j := by
  unfold wayRow
  refine Nat.le_trans (List.length_filterMap_le _ _) ?_
  simp
theorem waysTo_len : (waysTo T N i).length ≤ i * N := by
  induction i with
  | zero => simp [waysTo]
  | succ i ih =>
    rw [waysTo_succ, List.length_append, Nat.succ_mul]
    have := wayRow_len (T := T) (i := i) (j := N)
    omega
theorem mem_waysTo : x ∈ waysTo T N m ↔ ∃ i k : Nat, i < m ∧ k < N ∧ i ≠ k ∧ x = ((i : Int), (k : Int), T i k) := by
  unfold waysTo wayRow
  simp only [List.mem_flatMap, List.mem_range, List.mem_filterMap]
  constructor
  · rintro ⟨i, hi, k, hk, h⟩
    by_cases e : i = k
    · rw [if_pos e] at h; cases h
    · rw [if_neg e] at h
      injection h with h
      exact ⟨i, k, hi, hk, e, h.symm⟩
  · rintro ⟨i, k, hi, hk, e, rfl⟩
    exact ⟨i, hi, k, hk, by rw [if_neg e]⟩
/-- Each place to each other one. -/
def fullW (T : Nat → Nat → Int) (N i k : Nat) : Option Int := if i < N ∧ k < N ∧ i ≠ k then some (T i k) else none
theorem fullW_some {c : Int} : fullW T N i k = some c ↔ (i < N ∧ k < N ∧ i ≠ k) ∧ c = T i k := by
  unfold fullW
  split
  · rename_i h
    exact ⟨fun e => ⟨h, by injection e with e; exact e.symm⟩, fun e => by rw [e.2]⟩
  · rename_i h
    exact ⟨fun e => (by cases e), fun e => absurd e.1 h⟩
theorem waysTo_arcs : ArcsOf (waysTo T N N) (fullW T N) := ⟨fun x hx => by
  obtain ⟨i, k, hi, hk, e, rfl⟩ := mem_waysTo.1 hx
  exact ⟨i, k, rfl, rfl, fullW_some.2 ⟨⟨hi, hk, e⟩, rfl⟩⟩, fun i k c h => by
  obtain ⟨⟨hi, hk, e⟩, rfl⟩ := fullW_some.1 h
  exact ⟨_, mem_waysTo.2 ⟨i, k, hi, hk, e, rfl⟩, rfl, rfl, rfl⟩⟩
theorem waysTo_ok (hN : N ≤ 141) (hT : ∀ i k, i < N → k < N → 0 ≤ T i k ∧ T i k ≤ 1099511627776) : checkV (N : Int) (waysTo T N N) = 0 ∧ ∀ x ∈ waysTo T N N, 0 ≤ x.2.2 := by
  have hm : ∀ x ∈ waysTo T N N, okA (N : Int) x = true ∧ 0 ≤ x.2.2 := fun x hx => by
    obtain ⟨i, k, hi, hk, e, rfl⟩ := mem_waysTo.1 hx
    have := hT i k hi hk
    exact ⟨okA_true.2 ⟨by simp only; omega, by simp only; omega, by simp only; omega, by simp only; omega⟩, this.1⟩
  have hl := waysTo_len (T := T) (N := N) (i := N)
  have h2 : N * N ≤ 141 * 141 := Nat.mul_le_mul hN hN
  exact ⟨checkV_zero.2 ⟨⟨by omega, by omega, by omega⟩, fun x hx => (hm x hx).1⟩, fun x hx => (hm x hx).2⟩
/-! ### The same arcs by other names -/
variable {W W2 : Nat → Nat → Option Int} {f : Nat → Nat} {s : Nat} {d : Int}
theorem WayF.named (hW : ∀ i k c, W i k = some c → W2 (f i) (f k) = some c) (h : WayF W s i m d) : WayF W2 (f s) (f i) m d := by
  induction h with
  | nil => exact .nil
  | snoc _ hx ih => exact ih.snoc (hW _ _ _ hx)
/-- .. where the others' arcs are these alone. -/
theorem WayF.unnamed (hW : ∀ i k c, W2 i k = some c → ∃ a b, i = f a ∧ k = f b ∧ a < N ∧ b < N ∧ W a b = some c) (hf : ∀ a b, a < N → b < N → f a = f b → a = b) (hs : s < N) {t : Nat} (h : WayF W2 (f s) t m d) : ∃ i, i < N ∧ t = f i ∧ WayF W s i m d := by
  induction h with
  | nil => exact ⟨s, hs, rfl, .nil⟩
  | snoc _ hx ih =>
    obtain ⟨i, hi, e, hw⟩ := ih
    obtain ⟨a, b, e1, e2, ha, hb, h3⟩ := hW _ _ _ hx
    have : i = a := hf i a hi ha (by rw [← e, ← e1])
    subst this
    exact ⟨b, hb, e2, hw.snoc h3⟩
theorem LeastW.named (hW : ∀ i k c, W i k = some c → W2 (f i) (f k) = some c) (hW2 : ∀ i k c, W2 i k = some c → ∃ a b, i = f a ∧ k = f b ∧ a < N ∧ b < N ∧ W a b = some c) (hf : ∀ a b, a < N → b < N → f a = f b → a = b) (hs : s < N) (hi : i < N) (h : LeastW W s i d) : LeastW W2 (f s) (f i) d := by
  obtain ⟨⟨k, hw⟩, h2⟩ := h
  refine ⟨⟨k, hw.named hW⟩, fun k c hw => ?_⟩
  obtain ⟨i2, hi2, e, hw2⟩ := hw.unnamed hW2 hf hs
  have : i = i2 := hf i i2 hi hi2 e
  subst this
  exact h2 k c hw2
end Go.Proofs.Ytchdpapaojkbhaa
end
section
/- Arcs, made one by one: the graph's box, the arcs' row. -/
namespace Go.Proofs.Ytchdpapaojkbhaa
open Go.RowKit

variable {w wr w2 w4 : World} {a : Option Addr} {len cap B B2 g r g' cap' k : Nat} {l xs : List Ar} {N : Int} {x y : Ar} {lv : Value} {o : Obj}
/-- Arcs, as cells. -/
def flatA (l : List Ar) : List Value := l.flatMap encA
theorem flatA_length (l : List Ar) : (flatA l).length = l.length * 3 := by
  induction l with
  | nil => rfl
  | cons x r ih => unfold flatA at ih ⊢; rw [List.flatMap_cons, List.length_append, ih, List.length_cons]; show 3 + _ = _; omega
theorem flatA_snoc (l : List Ar) (x : Ar) : flatA (l ++ [x]) = flatA l ++ encA x := by simp [flatA]
theorem flatA_get : ∀ (l : List Ar) (k : Nat) (x : Ar), l[k]? = some x → (flatA l)[k * 3]? = some (.int .i64 x.1) ∧ (flatA l)[k * 3 + 1]? = some (.int .i64 x.2.1) ∧ (flatA l)[k * 3 + 2]? = some (.int .i64 x.2.2)
  | [], k, x, h => by simp at h
  | y :: r, 0, x, h => by
    simp at h
    subst h
    exact ⟨rfl, rfl, rfl⟩
  | y :: r, k + 1, x, h => by
    have ih := flatA_get r k x (by simpa using h)
    unfold flatA at ih ⊢
    rw [List.flatMap_cons]
    have e1 : (k + 1) * 3 = (k * 3) + 1 + 1 + 1 := by omega
    rw [e1]
    exact ih
/-- A row of arcs of the call's own, as the graph's arcs. -/
theorem owns_arcs {n : Nat} (h : w.ownsRow B 88 3 (.slice a n cap) xs.length (flatA xs)) : n = xs.length ∧ IsArcs w.heap.size w a n xs := by
  rcases h.2 with ⟨e, h0⟩ | ⟨g, cap', cur, hv, hb, hg, _⟩
  · injection e with _ e2 _
    subst e2
    exact ⟨by omega, by omega, .inl rfl⟩
  · have hh := h
    injection hv with e1 e2 e3
    subst e1 e2 e3
    refine ⟨rfl, rfl, .inr ⟨g, 0, rfl, (Array.getElem?_eq_some_iff.1 hg).1, fun k x hk => ?_⟩⟩
    obtain ⟨q0, q1, q2⟩ := flatA_get xs k x hk
    have c0 := World.ownsRow.cells hh (g := g) rfl _ _ q0
    have c1 := World.ownsRow.cells hh (g := g) rfl _ _ q1
    have c2 := World.ownsRow.cells hh (g := g) rfl _ _ q2
    simp only [Addr.add_lit, Nat.zero_add] at c0 c1 c2
    simp only [Nat.zero_add]
    exact ⟨c0, c1, c2⟩

/-- What the law's maker has: its result's box; its graph's box; the arcs' row. -/
structure MakeW (w wr : World) (r g : Nat) (N : Int) (lv : Value) (xs : List Ar) : Prop where
  below : Below w.heap.size w wr
  res : wr.heap[r]? = some (.cells #[.int .i64 0, .slice none 0 0] 71 (0, 0))
  blk : wr.heap[g]? = some (.cells #[.int .i64 N, lv] 71 (0, 0))
  row : wr.ownsRow (g + 1) 88 3 lv xs.length (flatA xs)
  ge : w.heap.size ≤ r
  lt : r < g
theorem MakeW.ltg (h : MakeW w wr r g N lv xs) : g < wr.heap.size := (Array.getElem?_eq_some_iff.1 h.blk).1
theorem MakeW.later (h : MakeW w wr r g N lv xs) (hb : Below wr.heap.size wr w2) : MakeW w w2 r g N lv xs :=
  ⟨h.below.trans (hb.mono h.below.size), (hb.block r (by have := h.ltg; have := h.lt; omega)).trans h.res, (hb.block g h.ltg).trans h.blk, owns_below h.row hb, h.ge, h.lt⟩
theorem MakeW.c0 (h : MakeW w wr r g N lv xs) : wr.cell? ⟨g, 0, none⟩ = some (.int .i64 N) := by simp [World.cell?, h.blk]
theorem MakeW.c1 (h : MakeW w wr r g N lv xs) : wr.cell? ⟨g, 1, none⟩ = some lv := by simp [World.cell?, h.blk]
/-- One arc more. -/
theorem MakeW.push (h : MakeW w wr r g N lv xs) (hown : w4.ownsRow (g + 1) 88 3 (.slice (some ⟨g', 0, none⟩) (xs.length + 1) cap') (xs.length + 1) (flatA xs ++ encA y)) (hgrow : wr.grownBy w4 lv.ownBlock) :
    MakeW w (w4.setCell ⟨g, 1, none⟩ (.slice (some ⟨g', 0, none⟩) (xs.length + 1) cap')) r g N (.slice (some ⟨g', 0, none⟩) (xs.length + 1) cap') (xs ++ [y]) ∧
    w4.cell? ⟨g, 0, none⟩ = some (.int .i64 N) ∧ w4.cell? ⟨g, 1, none⟩ = some lv ∧ w4.frozen? ⟨g, 1, none⟩ = false := by
  have hm : Mod (fun k => lv.ownBlock = some k) wr w4 := (Mod.refl _ wr).grown hgrow (fun k hk => .inr hk)
  have hC : ∀ k, lv.ownBlock = some k → g + 1 ≤ k := fun k hk => (World.ownsRow.lt h.row k hk).1
  have hge := h.ge
  have hlt := h.lt
  have hb4 : w4.heap[g]? = some (.cells #[.int .i64 N, lv] 71 (0, 0)) := (hm.block g h.ltg (fun e => by have := hC _ e; omega)).trans h.blk
  have hr4 : w4.heap[r]? = some (.cells #[.int .i64 0, .slice none 0 0] 71 (0, 0)) := (hm.block r (by have := h.ltg; omega) (fun e => by have := hC _ e; omega)).trans h.res
  have hbe : Below w.heap.size w w4 := ((Mod.of_below (fun k => lv.ownBlock = some k) h.below).trans hm).below (Nat.le_refl _) (fun k hk => by have := hC k hk; omega)
  refine ⟨⟨hbe.setCell (show w.heap.size ≤ g by omega) _, ?_, heap_setCell_same _ _ _ _ _ _ hb4, ?_, hge, hlt⟩, by simp [World.cell?, hb4], by simp [World.cell?, hb4], frozen_of_row _ _ 1 _ _ hb4⟩
  · rw [heap_setCell_other _ _ _ _ (show r ≠ g by omega)]; exact hr4
  · rw [flatA_snoc, List.length_append]
    exact ownsRow_setCell_other hown (fun e => by have := (World.ownsRow.lt hown _ e).1; simp at this; omega) _
theorem MakeW.turn {xs2 : List Ar} (h : MakeW w wr r g N lv xs) (e : xs = xs2) : MakeW w wr r g N lv xs2 := e ▸ h
theorem infoArcL : (Try.prog.info? 88).map (fun i => (i.zero, i.size, i.bytes)) = some (some (.agg #[.int .i64 0, .int .i64 0, .int .i64 0]), 3, 24) := by kernel_rfl
theorem infoGraphL : (Try.prog.info? 71).map (fun i => i.size) = some 2 := by kernel_rfl
theorem newsA_at (w : World) (y : Ar) (T : TypeId) (z : Nat) (hz : w.heap.size = z) : ∀ (j : Nat) (u : Value), (encA y)[j]? = some u → (w.alloc (.cells #[.int .i64 y.1, .int .i64 y.2.1, .int .i64 y.2.2] T)).cell? ((⟨z, 0, none⟩ : Addr).add j) = some u := by
  subst hz
  intro j u hj
  rw [Addr.add_lit]
  match j, hj with
  | 0, hj => simp [encA] at hj; subst hj; simp
  | 1, hj => simp [encA] at hj; subst hj; simp
  | 2, hj => simp [encA] at hj; subst hj; simp
theorem oneA (y : Ar) : ∀ u ∈ encA y, u.oneCell' = true := by
  intro u hu
  simp [encA] at hu
  rcases hu with rfl | rfl | rfl <;> rfl
theorem MakeW.done (h : MakeW w wr r g N lv xs) :
    ((wr.setCell ⟨r, 0, none⟩ (.int .i64 N)).setCell ⟨r, 1, none⟩ lv).heap[r]? = some (.cells #[.int .i64 N, lv] 71 (0, 0)) ∧
    ((wr.setCell ⟨r, 0, none⟩ (.int .i64 N)).setCell ⟨r, 1, none⟩ lv).ownsRow w.heap.size 88 3 lv xs.length (flatA xs) ∧
    Below w.heap.size w ((wr.setCell ⟨r, 0, none⟩ (.int .i64 N)).setCell ⟨r, 1, none⟩ lv) := by
  have h1 := h.ge
  have h2 := h.lt
  have hm : Mod (fun b => b = r) wr ((wr.setCell ⟨r, 0, none⟩ (.int .i64 N)).setCell ⟨r, 1, none⟩ lv) :=
    ((Mod.refl (fun b => b = r) wr).setCell (p := ⟨r, 0, none⟩) (.inr rfl) _).setCell (p := ⟨r, 1, none⟩) (.inr rfl) _
  exact ⟨heap_setCell_same _ _ _ _ _ _ (heap_setCell_same _ _ _ _ _ _ h.res), owns_rebase (owns_kept h.row hm (fun k hk => by have := (World.ownsRow.lt h.row k hk).1; omega)) (by omega),
    ((Mod.of_below (fun b => b = r) h.below).trans hm).below (Nat.le_refl _) (fun k hk => by omega)⟩

end Go.Proofs.Ytchdpapaojkbhaa
end
section
/- Package reach: ways: from each place to each other one. -/
namespace Go.Proofs.Ytchdpapaojkbhaa
open Go.RowKit

variable {w w2 wr : World} {T : Nat → Nat → Int} {N : Nat}
theorem waysTo_part_len {i j : Nat} (hi : i < N) (hN : N ≤ 100) (hj : j ≤ N) : (waysTo T N i ++ wayRow T i j).length ≤ 10100 := by
  have h1 := waysTo_len (T := T) (N := N) (i := i)
  have h2 := wayRow_len (T := T) (i := i) (j := j)
  have h3 : i * N ≤ 100 * 100 := Nat.mul_le_mul (by omega) hN
  rw [List.length_append]
  omega
set_option maxHeartbeats 4000000 in
set_option maxRecDepth 100000 in
theorem arcsWays_any (F : Nat) (cs : Array Value) (HF : ∀ (args : Array Value) (W : World), (callFunc F args).run Try.prog W = .ok (.enter F args) W) (hN : N ≤ 100) (T : Nat → Nat → Int) (w : World)
    (HT : ∀ W, Below w.heap.size w W → ∀ i k : Nat, i < N → k < N → i ≠ k → Calls Try.prog F (#[.int .i64 (i : Int), .int .i64 (k : Int)] ++ cs) W fun e w' => e = .returned (.int .i64 (T i k)) ∧ Below W.heap.size W w') :
    Calls Try.prog 26 #[.int .i64 (N : Int), .func (.func F) #[] cs] w fun e w' => ∃ lv, e = .returned (.agg #[.int .i64 (N : Int), lv]) ∧ w'.ownsRow w.heap.size 88 3 lv (waysTo T N N).length (flatA (waysTo T N N)) ∧ Below w.heap.size w w' := by
  obtain ⟨i0, hi0, hz0, hz1, hz2⟩ := info_parts infoArcL
  have HTT := Lib.hid HT; clear HT
  have HG0 : Hid (MakeW w ((w.alloc (.cells #[.int .i64 0, .slice none 0 0] 71)).alloc (.cells #[.int .i64 (N : Int), .slice none 0 0] 71)) w.heap.size (w.heap.size + 1) (N : Int) (.slice none 0 0) (waysTo T N 0)) :=
    Lib.hid ⟨((Below.refl _ w).alloc (Nat.le_refl _) _).alloc (by simp) _, heap_alloc2_old _ _ _, heap_alloc2_new _ _ _, World.ownsRow_nil _ _ _ 3, Nat.le_refl _, by omega⟩
  go_enter Try.func26, Try.ntmps26
  go_wp2_with fail
  obtain ⟨g, hg⟩ : ∃ g, g = w.heap.size + 1 := ⟨_, rfl⟩
  rw [← hg] at HG0
  rw [← hg]
  have HGG := Lib.hid hg
  clear hg
  go_loopw [11] (fun iv wr => ∃ (i : Nat) (lv : Value), iv = .int .i64 (i : Int) ∧ i ≤ N ∧ Hid (MakeW w wr w.heap.size g (N : Int) lv (waysTo T N i))) (fun iv _ => N - (intOf iv).toNat)
  case atStart => exact ⟨0, _, rfl, Nat.zero_le _, HG0⟩
  case round =>
    obtain ⟨i, lv, rfl, hi, HX⟩ := hrel
    clear HG0
    by_cases hlt : i < N
    · have HY0 : Hid (MakeW w wr w.heap.size g (N : Int) lv (waysTo T N i ++ wayRow T i 0)) := Lib.hid (HX.out.turn (by rw [wayRow_zero, List.append_nil]))
      clear HX
      go_wp2_with fail
      go_loopw [15] (fun jv wr => ∃ (j : Nat) (lv : Value), jv = .int .i64 (j : Int) ∧ j ≤ N ∧ Hid (MakeW w wr w.heap.size g (N : Int) lv (waysTo T N i ++ wayRow T i j))) (fun jv _ => N - (intOf jv).toNat)
      case atStart => exact ⟨0, _, rfl, Nat.zero_le _, HY0⟩
      case round =>
        obtain ⟨j, lv, rfl, hj, HX⟩ := hrel
        clear HY0
        by_cases hltj : j < N
        · by_cases hne : i = j
          · subst hne
            have HN := Lib.hid (wayRow_same (T := T) (i := i))
            go_wp2_with fail
            go_roundw
            case rel => exact ⟨i + 1, _, by go_num, by omega, Lib.hid (HX.out.turn (by rw [HN.out]))⟩
            case measure => simp [intOf]; omega
          · have HN := Lib.hid (wayRow_succ (T := T) hne)
            have hneI : ¬ (i : Int) = (j : Int) := by omega
            have hneb : ((i : Int) != (j : Int)) = true := by simpa using hneI
            obtain ⟨va, vc, hv⟩ := owns_shape HX.out.row
            subst hv
            have hml := waysTo_part_len (T := T) (j := j) hlt hN hj
            obtain ⟨xs, hxs⟩ : ∃ xs, waysTo T N i ++ wayRow T i j = xs := ⟨_, rfl⟩
            have HXS := Lib.hid hxs
            rw [hxs] at HX hml
            have HC := Lib.hid (HTT.out wr.drew HX.out.below.drew i j hlt hltj hne)
            obtain ⟨t, ht⟩ : ∃ t, T i j = t := ⟨_, rfl⟩
            have HTI := Lib.hid ht
            rw [ht] at HC
            have HX0 := Lib.hid (HX.out.later ((Below.refl wr.heap.size wr).drew))
            have a0 := HX0.out.c1
            clear hxs ht hne hneI HX
            go_wp2_with fail
            refine wp_region_held_drew (S := fun _ => True) (by kernel_rfl) trivial (fun hHeld => ?_)
            refine wpAnyH_take (i := 0) (v := ?_) rfl (by kernel_rfl) (by kernel_rfl) (by kernel_rfl) (fun _ _ _ h => h) (Or.inl ⟨by rfl, ?_⟩) hHeld ?_
            rotate_left
            · intro Wz hWz; go_simp; (try with_reducible rfl)
            try simp only [Act.put, List.setIfInBounds_toArray, List.set_cons_zero, List.set_cons_succ, List.getElem_toArray, List.getElem_cons_zero]
            refine wpAnyH_take (i := 2) (v := ?_) rfl (by kernel_rfl) (by kernel_rfl) (by kernel_rfl) (fun _ _ _ h => h) (Or.inl ⟨by rfl, ?_⟩) hHeld ?_
            rotate_left
            · intro Wz hWz; go_simp; (try with_reducible rfl)
            try simp only [Act.put, List.setIfInBounds_toArray, List.set_cons_zero, List.set_cons_succ, List.getElem_toArray, List.getElem_cons_zero, List.getElem_cons_succ]
            refine wpAnyH_take (i := 3) (v := ?_) rfl (by kernel_rfl) (by kernel_rfl) (by kernel_rfl) (fun _ _ _ h => h) (Or.inl ⟨by rfl, ?_⟩) hHeld ?_
            rotate_left
            · intro Wz hWz; go_simp; (try with_reducible rfl)
            try simp only [Act.put, List.setIfInBounds_toArray, List.set_cons_zero, List.set_cons_succ, List.getElem_toArray, List.getElem_cons_zero, List.getElem_cons_succ]
            refine wpAnyH_take (i := 4) (v := ?_) rfl (by kernel_rfl) (by kernel_rfl) (by kernel_rfl) (fun _ _ _ h => h) (Or.inl ⟨by rfl, ?_⟩) hHeld ?_
            rotate_left
            · intro Wz hWz; go_simp; (try with_reducible rfl)
            try simp only [Act.put, List.setIfInBounds_toArray, List.set_cons_zero, List.set_cons_succ, List.getElem_toArray, List.getElem_cons_zero, List.getElem_cons_succ]
            refine wpAnyH_take (i := 5) (v := ?_) rfl (by kernel_rfl) (by kernel_rfl) (by kernel_rfl) (fun _ _ _ h => h) (Or.inl ⟨by rfl, ?_⟩) hHeld ?_
            rotate_left
            · intro Wz hWz; go_simp; (try with_reducible rfl)
            try simp only [Act.put, List.setIfInBounds_toArray, List.set_cons_zero, List.set_cons_succ, List.getElem_toArray, List.getElem_cons_zero, List.getElem_cons_succ]
            refine wpAnyH_take (i := 6) (v := ?_) rfl (by kernel_rfl) (by kernel_rfl) (by kernel_rfl) (fun _ _ _ h => h) (Or.inl ⟨by rfl, ?_⟩) hHeld ?_
            rotate_left
            · intro Wz hWz; go_simp; (try with_reducible rfl)
            try simp only [Act.put, List.setIfInBounds_toArray, List.set_cons_zero, List.set_cons_succ, List.getElem_toArray, List.getElem_cons_zero, List.getElem_cons_succ]
            refine wpAnyH_ready (rs := [1, 7]) (by kernel_rfl) (by simp) ?_
            refine AllReadyH.cons rfl (fun K hK => ?_) (AllReadyH.cons rfl (fun K hK => ?_) AllReadyH.nil)
            · go_simp
              refine hK.out _ _ ?_ (fun hHeld => ?_)
              · exact trivial
              clear hK K
              try simp only [Act.put, List.setIfInBounds_toArray, List.set_cons_zero, List.set_cons_succ, List.getElem_toArray, List.getElem_cons_zero, List.getElem_cons_succ]
              refine wpAnyH_ready (rs := [7]) (by kernel_rfl) (by simp) ?_
              refine AllReadyH.cons rfl (fun K hK => ?_) AllReadyH.nil
              go_simp
              refine HC.out.mono ?_
              rintro e w3 ⟨rfl, hb3⟩
              have HX3 := Lib.hid (HX0.out.later hb3)
              have a3 := HX3.out.c1
              clear hb3 HC
              refine hK.out _ _ ?_ (fun hHeld => ?_)
              · exact trivial
              clear hK K
              try simp only [Act.put, List.setIfInBounds_toArray, List.set_cons_zero, List.set_cons_succ, List.getElem_toArray, List.getElem_cons_zero, List.getElem_cons_succ]
              refine wpAnyH_take (i := 8) (v := ?_) rfl (by kernel_rfl) (by kernel_rfl) (by kernel_rfl) (fun _ _ _ h => h) (Or.inl ⟨by rfl, ?_⟩) hHeld ?_
              rotate_left
              · intro Wz hWz; go_simp; (try with_reducible rfl)
              try simp only [Act.put, List.setIfInBounds_toArray, List.set_cons_zero, List.set_cons_succ, List.getElem_toArray, List.getElem_cons_zero, List.getElem_cons_succ]
              refine wpAnyH_ready (rs := [9]) (by kernel_rfl) (by simp) ?_
              refine AllReadyH.cons rfl (fun K hK => ?_) AllReadyH.nil
              go_simp
              have HX4 := Lib.hid (HX3.out.later ((Below.refl _ _).alloc (Nat.le_refl _) (.cells #[.int .i64 (i : Int), .int .i64 (j : Int), .int .i64 t] 88)))
              have a4 := HX4.out.c1
              refine hK.out _ _ ?_ (fun hHeld => ?_)
              · exact trivial
              clear hK K
              try simp only [Act.put, List.setIfInBounds_toArray, List.set_cons_zero, List.set_cons_succ, List.getElem_toArray, List.getElem_cons_zero, List.getElem_cons_succ]
              refine wpAnyH_ready (rs := [10]) (by kernel_rfl) (by simp) ?_
              refine AllReadyH.cons rfl (fun K hK => ?_) AllReadyH.nil
              refine step_append_fresh rfl (.tmp 22) (.tmp 30) 69 rfl (g + 1) 88 i0 _ 3 24 Try.underlying69 hi0 hz0 hz1 hz2 (by decide) (.slice va xs.length vc) xs.length (flatA xs) rfl HX4.out.row ⟨w3.heap.size, 0, none⟩ 1 (encA ((i : Int), (j : Int), t)) rfl rfl (newsA_at _ ((i : Int), (j : Int), t) _ _ rfl) (oneA _) (by unfold maxLen; omega) (by omega) (by have := HX3.out.ltg; simp; omega) ?_
              intro g' cp4 w4 hown hgrow hfr
              obtain ⟨hp, _, c4, d4⟩ := HX4.out.push hown hgrow
              have HP := Lib.hid hp
              clear hown hgrow hfr hp
              refine hK.out _ _ ?_ (fun hHeld => ?_)
              · exact trivial
              clear hK K
              try simp only [Act.put, List.setIfInBounds_toArray, List.set_cons_zero, List.set_cons_succ, List.getElem_toArray, List.getElem_cons_zero, List.getElem_cons_succ]
              refine wpAnyH_take (i := 11) (v := ?_) rfl (by kernel_rfl) (by kernel_rfl) (by kernel_rfl) (fun _ _ _ h => h) (Or.inl ⟨by rfl, ?_⟩) hHeld ?_
              rotate_left
              · intro Wz hWz; go_simp; (try with_reducible rfl)
              try simp only [Act.put, List.setIfInBounds_toArray, List.set_cons_zero, List.set_cons_succ, List.getElem_toArray, List.getElem_cons_zero, List.getElem_cons_succ]
              refine wpAnyH_ready (rs := [12]) (by kernel_rfl) (by simp) ?_
              refine AllReadyH.cons rfl (fun K hK => ?_) AllReadyH.nil
              go_simp
              refine hK.out _ _ ?_ (fun hHeld => ?_)
              · exact trivial
              clear hK K
              try simp only [Act.put, List.setIfInBounds_toArray, List.set_cons_zero, List.set_cons_succ, List.getElem_toArray, List.getElem_cons_zero, List.getElem_cons_succ]
              refine wpAnyH_done (by kernel_rfl) ?_ _
              clear hHeld
              go_wp2_with fail
              go_roundw
              case rel => exact ⟨j + 1, _, by go_num, by omega, Lib.hid (HP.out.turn (by rw [HN.out, ← List.append_assoc, HXS.out, HTI.out]))⟩
              case measure => simp [intOf]; omega
            · go_simp
              refine HC.out.mono ?_
              rintro e w3 ⟨rfl, hb3⟩
              have HX3 := Lib.hid (HX0.out.later hb3)
              have a3 := HX3.out.c1
              clear hb3 HC
              refine hK.out _ _ ?_ (fun hHeld => ?_)
              · exact trivial
              clear hK K
              try simp only [Act.put, List.setIfInBounds_toArray, List.set_cons_zero, List.set_cons_succ, List.getElem_toArray, List.getElem_cons_zero, List.getElem_cons_succ]
              refine wpAnyH_take (i := 8) (v := ?_) rfl (by kernel_rfl) (by kernel_rfl) (by kernel_rfl) (fun _ _ _ h => h) (Or.inl ⟨by rfl, ?_⟩) hHeld ?_
              rotate_left
              · intro Wz hWz; go_simp; (try with_reducible rfl)
              try simp only [Act.put, List.setIfInBounds_toArray, List.set_cons_zero, List.set_cons_succ, List.getElem_toArray, List.getElem_cons_zero, List.getElem_cons_succ]
              refine wpAnyH_ready (rs := [1, 9]) (by kernel_rfl) (by simp) ?_
              refine AllReadyH.cons rfl (fun K hK => ?_) (AllReadyH.cons rfl (fun K hK => ?_) AllReadyH.nil)
              · go_simp
                refine hK.out _ _ ?_ (fun hHeld => ?_)
                · exact trivial
                clear hK K
                try simp only [Act.put, List.setIfInBounds_toArray, List.set_cons_zero, List.set_cons_succ, List.getElem_toArray, List.getElem_cons_zero, List.getElem_cons_succ]
                refine wpAnyH_ready (rs := [9]) (by kernel_rfl) (by simp) ?_
                refine AllReadyH.cons rfl (fun K hK => ?_) AllReadyH.nil
                go_simp
                have HX4 := Lib.hid (HX3.out.later ((Below.refl _ _).alloc (Nat.le_refl _) (.cells #[.int .i64 (i : Int), .int .i64 (j : Int), .int .i64 t] 88)))
                have a4 := HX4.out.c1
                refine hK.out _ _ ?_ (fun hHeld => ?_)
                · exact trivial
                clear hK K
                try simp only [Act.put, List.setIfInBounds_toArray, List.set_cons_zero, List.set_cons_succ, List.getElem_toArray, List.getElem_cons_zero, List.getElem_cons_succ]
                refine wpAnyH_ready (rs := [10]) (by kernel_rfl) (by simp) ?_
                refine AllReadyH.cons rfl (fun K hK => ?_) AllReadyH.nil
                refine step_append_fresh rfl (.tmp 22) (.tmp 30) 69 rfl (g + 1) 88 i0 _ 3 24 Try.underlying69 hi0 hz0 hz1 hz2 (by decide) (.slice va xs.length vc) xs.length (flatA xs) rfl HX4.out.row ⟨w3.heap.size, 0, none⟩ 1 (encA ((i : Int), (j : Int), t)) rfl rfl (newsA_at _ ((i : Int), (j : Int), t) _ _ rfl) (oneA _) (by unfold maxLen; omega) (by omega) (by have := HX3.out.ltg; simp; omega) ?_
                intro g' cp4 w4 hown hgrow hfr
                obtain ⟨hp, _, c4, d4⟩ := HX4.out.push hown hgrow
                have HP := Lib.hid hp
                clear hown hgrow hfr hp
                refine hK.out _ _ ?_ (fun hHeld => ?_)
                · exact trivial
                clear hK K
                try simp only [Act.put, List.setIfInBounds_toArray, List.set_cons_zero, List.set_cons_succ, List.getElem_toArray, List.getElem_cons_zero, List.getElem_cons_succ]
                refine wpAnyH_take (i := 11) (v := ?_) rfl (by kernel_rfl) (by kernel_rfl) (by kernel_rfl) (fun _ _ _ h => h) (Or.inl ⟨by rfl, ?_⟩) hHeld ?_
                rotate_left
                · intro Wz hWz; go_simp; (try with_reducible rfl)
                try simp only [Act.put, List.setIfInBounds_toArray, List.set_cons_zero, List.set_cons_succ, List.getElem_toArray, List.getElem_cons_zero, List.getElem_cons_succ]
                refine wpAnyH_ready (rs := [12]) (by kernel_rfl) (by simp) ?_
                refine AllReadyH.cons rfl (fun K hK => ?_) AllReadyH.nil
                go_simp
                refine hK.out _ _ ?_ (fun hHeld => ?_)
                · exact trivial
                clear hK K
                try simp only [Act.put, List.setIfInBounds_toArray, List.set_cons_zero, List.set_cons_succ, List.getElem_toArray, List.getElem_cons_zero, List.getElem_cons_succ]
                refine wpAnyH_done (by kernel_rfl) ?_ _
                clear hHeld
                go_wp2_with fail
                go_roundw
                case rel => exact ⟨j + 1, _, by go_num, by omega, Lib.hid (HP.out.turn (by rw [HN.out, ← List.append_assoc, HXS.out, HTI.out]))⟩
                case measure => simp [intOf]; omega
              · go_simp
                have HX4 := Lib.hid (HX3.out.later ((Below.refl _ _).alloc (Nat.le_refl _) (.cells #[.int .i64 (i : Int), .int .i64 (j : Int), .int .i64 t] 88)))
                have a4 := HX4.out.c1
                refine hK.out _ _ ?_ (fun hHeld => ?_)
                · exact trivial
                clear hK K
                try simp only [Act.put, List.setIfInBounds_toArray, List.set_cons_zero, List.set_cons_succ, List.getElem_toArray, List.getElem_cons_zero, List.getElem_cons_succ]
                refine wpAnyH_ready (rs := [1]) (by kernel_rfl) (by simp) ?_
                refine AllReadyH.cons rfl (fun K hK => ?_) AllReadyH.nil
                go_simp
                refine hK.out _ _ ?_ (fun hHeld => ?_)
                · exact trivial
                clear hK K
                try simp only [Act.put, List.setIfInBounds_toArray, List.set_cons_zero, List.set_cons_succ, List.getElem_toArray, List.getElem_cons_zero, List.getElem_cons_succ]
                refine wpAnyH_ready (rs := [10]) (by kernel_rfl) (by simp) ?_
                refine AllReadyH.cons rfl (fun K hK => ?_) AllReadyH.nil
                refine step_append_fresh rfl (.tmp 22) (.tmp 30) 69 rfl (g + 1) 88 i0 _ 3 24 Try.underlying69 hi0 hz0 hz1 hz2 (by decide) (.slice va xs.length vc) xs.length (flatA xs) rfl HX4.out.row ⟨w3.heap.size, 0, none⟩ 1 (encA ((i : Int), (j : Int), t)) rfl rfl (newsA_at _ ((i : Int), (j : Int), t) _ _ rfl) (oneA _) (by unfold maxLen; omega) (by omega) (by have := HX3.out.ltg; simp; omega) ?_
                intro g' cp4 w4 hown hgrow hfr
                obtain ⟨hp, _, c4, d4⟩ := HX4.out.push hown hgrow
                have HP := Lib.hid hp
                clear hown hgrow hfr hp
                refine hK.out _ _ ?_ (fun hHeld => ?_)
                · exact trivial
                clear hK K
                try simp only [Act.put, List.setIfInBounds_toArray, List.set_cons_zero, List.set_cons_succ, List.getElem_toArray, List.getElem_cons_zero, List.getElem_cons_succ]
                refine wpAnyH_take (i := 11) (v := ?_) rfl (by kernel_rfl) (by kernel_rfl) (by kernel_rfl) (fun _ _ _ h => h) (Or.inl ⟨by rfl, ?_⟩) hHeld ?_
                rotate_left
                · intro Wz hWz; go_simp; (try with_reducible rfl)
                try simp only [Act.put, List.setIfInBounds_toArray, List.set_cons_zero, List.set_cons_succ, List.getElem_toArray, List.getElem_cons_zero, List.getElem_cons_succ]
                refine wpAnyH_ready (rs := [12]) (by kernel_rfl) (by simp) ?_
                refine AllReadyH.cons rfl (fun K hK => ?_) AllReadyH.nil
                go_simp
                refine hK.out _ _ ?_ (fun hHeld => ?_)
                · exact trivial
                clear hK K
                try simp only [Act.put, List.setIfInBounds_toArray, List.set_cons_zero, List.set_cons_succ, List.getElem_toArray, List.getElem_cons_zero, List.getElem_cons_succ]
                refine wpAnyH_done (by kernel_rfl) ?_ _
                clear hHeld
                go_wp2_with fail
                go_roundw
                case rel => exact ⟨j + 1, _, by go_num, by omega, Lib.hid (HP.out.turn (by rw [HN.out, ← List.append_assoc, HXS.out, HTI.out]))⟩
                case measure => simp [intOf]; omega
        · obtain rfl : j = N := by omega
          have HN := Lib.hid (waysTo_succ (T := T) (N := j) (i := i))
          go_wp2_with fail
          go_roundw
          case rel => exact ⟨i + 1, _, by go_num, by omega, Lib.hid (HX.out.turn HN.out.symm)⟩
          case measure => simp [intOf]; omega
    · obtain rfl : i = N := by omega
      obtain ⟨va, vc, hv⟩ := owns_shape HX.out.row
      subst hv
      have x0 := HX.out.c0
      have x1 := HX.out.c1
      have r0 := cell_of_row _ _ 0 _ _ _ HX.out.res
      have r1 := cell_of_row _ _ 1 _ _ _ HX.out.res
      have d0 := frozen_of_row _ _ 0 _ _ HX.out.res
      have d1 := frozen_of_row _ _ 1 _ _ HX.out.res
      go_wp2_with fail
      obtain ⟨g1, g2, g3⟩ := HX.out.done
      exact bodyPost_ret (v := .agg #[.int .i64 (i : Int), .slice va (waysTo T i i).length vc]) (results_cell_row rfl _ _ w.heap.size 71 _ (0, 0) _ rfl g1 Try.underlying71 rfl infoGraphL) rfl ⟨_, rfl, g2, g3⟩
end Go.Proofs.Ytchdpapaojkbhaa
end
