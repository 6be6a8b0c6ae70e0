/- Package flow: lanes: for each node those from it. -/
import Derived.Test.YtbenmebmfihleaaMWk
import Derived.Test.YtbenmebmfihleaaFCheck
import Derived.OneCell
import Derived.LoopTactic
import Derived.Deep.RegionHeld3
import Derived.StillTailTactics
namespace Go.Proofs.Ytbenmebmfihleaa
open Go.RowKit

variable {w wr w2 w4 : World} {a : Option Addr} {len cap B g Lb N g' cap' f k q p i n : Nat} {l : List Pi} {V : Nat → Value} {R R2 : Nat → List La} {o : Obj} {x : Pi} {nn : Int} {y : La}
/-- What pipe k gives to the lanes of node i. -/
def laneOf (k : Nat) (x : Pi) (i : Nat) : List La := if x.1 = x.2.1 then [] else if x.1 = (i : Int) then [(k, x.2.1.toNat, false)] else if x.2.1 = (i : Int) then [(k, x.1.toNat, true)] else []
/-- The lanes of node i in the first n pipes. -/
def lanesU (l : List Pi) (i : Nat) : Nat → List La
  | 0 => []
  | k + 1 => lanesU l i k ++ (match l[k]? with | some x => laneOf k x i | none => [])
theorem lanesU_step (hx : l[k]? = some x) (i : Nat) : lanesU l i (k + 1) = lanesU l i k ++ laneOf k x i := by rw [lanesU, hx]
theorem laneOf_le (k : Nat) (x : Pi) (i : Nat) : (laneOf k x i).length ≤ 1 := by
  unfold laneOf
  split
  · simp
  · split
    · simp
    · split <;> simp
theorem lanesU_le (l : List Pi) (i : Nat) : ∀ n, (lanesU l i n).length ≤ n
  | 0 => Nat.le_refl _
  | n + 1 => by
    rw [lanesU, List.length_append]
    have := lanesU_le l i n
    cases l[n]? with
    | none => simp only [List.length_nil]; omega
    | some x => have := laneOf_le n x i; simp only; omega
theorem mem_lanesU : ∀ n, y ∈ lanesU l i n ↔ ∃ k x, k < n ∧ l[k]? = some x ∧ y ∈ laneOf k x i
  | 0 => by
    constructor
    · intro h; cases h
    · rintro ⟨k, x, h, _⟩; omega
  | n + 1 => by
    rw [lanesU, List.mem_append, mem_lanesU n]
    constructor
    · rintro (⟨k, x, h1, h2, h3⟩ | h)
      · exact ⟨k, x, by omega, h2, h3⟩
      · cases hx : l[n]? with
        | none => rw [hx] at h; cases h
        | some x => rw [hx] at h; exact ⟨n, x, by omega, hx, h⟩
    · rintro ⟨k, x, h1, h2, h3⟩
      by_cases e : k = n
      · subst e
        right
        rw [h2]
        exact h3
      · exact .inl ⟨k, x, by omega, h2, h3⟩
theorem lanes_good (hok : ∀ x ∈ l, okP (N : Int) x = true) : LanesOk l N (fun i => lanesU l i l.length) := by
  refine ⟨fun u hu a ha => ?_, fun k x f t hx hf ht hne => ?_⟩
  · obtain ⟨k, x, hk, hx, hm⟩ := (mem_lanesU _).1 ha
    have hxo := okP_true.1 (hok x (List.mem_of_getElem? hx))
    unfold laneOf at hm
    by_cases h1 : x.1 = x.2.1
    · rw [if_pos h1] at hm; cases hm
    · rw [if_neg h1] at hm
      by_cases h2 : x.1 = (u : Int)
      · rw [if_pos h2] at hm
        simp only [List.mem_singleton] at hm
        subst hm
        exact ⟨x, hx, by simp only; omega, by simp only; omega, by simp only [Bool.false_eq_true, if_false]; omega⟩
      · rw [if_neg h2] at hm
        by_cases h3 : x.2.1 = (u : Int)
        · rw [if_pos h3] at hm
          simp only [List.mem_singleton] at hm
          subst hm
          exact ⟨x, hx, by simp only; omega, by simp only; omega, by simp only [if_true]; omega⟩
        · rw [if_neg h3] at hm; cases hm
  · have hk := (List.getElem?_eq_some_iff.1 hx).1
    have h1 : ¬ x.1 = x.2.1 := by omega
    have h2 : ¬ x.1 = (t : Int) := by omega
    refine ⟨(mem_lanesU _).2 ⟨k, x, hk, hx, ?_⟩, (mem_lanesU _).2 ⟨k, x, hk, hx, ?_⟩⟩
    · have e : x.2.1.toNat = t := by omega
      simp [laneOf, hf, e]
      omega
    · have e : x.1.toNat = f := by omega
      have e3 : ¬ (f : Int) = (t : Int) := by omega
      simp [laneOf, hf, ht, e3]
/-- Lanes, as cells. -/
def laneC (a : La) : List Value := [.int .i64 (a.1 : Int), .int .i64 (a.2.1 : Int), .bool a.2.2]
def flatL (r : List La) : List Value := r.flatMap laneC
theorem flatL_snoc (r : List La) (a : La) : flatL (r ++ [a]) = flatL r ++ laneC a := by simp [flatL]
theorem flatL_length (r : List La) : (flatL r).length = r.length * 3 := by
  induction r with
  | nil => rfl
  | cons a r ih => simp only [flatL, List.flatMap_cons, List.length_append, List.length_cons] at ih ⊢; rw [ih]; simp [laneC]; omega
theorem flatL_get : ∀ (r : List La) (j : Nat) (x : La), r[j]? = some x → (flatL r)[j * 3]? = some (.int .i64 (x.1 : Int)) ∧ (flatL r)[j * 3 + 1]? = some (.int .i64 (x.2.1 : Int)) ∧ (flatL r)[j * 3 + 2]? = some (.bool x.2.2)
  | [], j, x, h => by simp at h
  | a :: r, 0, x, h => by simp at h; subst h; simp [flatL, laneC]
  | a :: r, j + 1, x, h => by
    have ih := flatL_get r j x (by simpa using h)
    have e : flatL (a :: r) = laneC a ++ flatL r := by simp [flatL]
    rw [e]
    have e1 : (j + 1) * 3 = (laneC a).length + j * 3 := by simp [laneC]; omega
    rw [e1, Nat.add_assoc, Nat.add_assoc, List.getElem?_append_right (by omega), List.getElem?_append_right (by omega), List.getElem?_append_right (by omega)]
    simpa using ih
/-- Block Lb, new since B, is a row of N slices of lanes, each of them in a row of its own. -/
structure AdjL (B : Nat) (w : World) (Lb N : Nat) (V : Nat → Value) (R : Nat → List La) : Prop where
  ge : B ≤ Lb
  out : w.rowIs Lb 79 N V
  row : ∀ i, i < N → w.ownsRow (Lb + 1) 81 3 (V i) (R i).length (flatL (R i))
  apart : ∀ i j, i < N → j < N → i ≠ j → ∀ b, (V i).ownBlock = some b → (V j).ownBlock ≠ some b
theorem AdjL.later (h : AdjL B w Lb N V R) (hb : Below w.heap.size w w2) : AdjL B w2 Lb N V R :=
  ⟨h.ge, rowIs_below h.out hb, fun i hi => owns_below (h.row i hi) hb, h.apart⟩
theorem AdjL.congr (h : AdjL B w Lb N V R) (e : ∀ i, i < N → R i = R2 i) : AdjL B w Lb N V R2 :=
  ⟨h.ge, h.out, fun i hi => by rw [← e i hi]; exact h.row i hi, h.apart⟩
theorem AdjL.push (h : AdjL B w Lb N V R) (hf : f < N) (hown : w4.ownsRow (Lb + 1) 81 3 (.slice (some ⟨g', 0, none⟩) ((R f).length + 1) cap') ((R f).length + 1) (flatL (R f) ++ laneC y))
    (hgrow : w.grownBy w4 (V f).ownBlock) (hfr : (V f).ownBlock = some g' ∨ g' = w.heap.size) :
    AdjL B (w4.setCell ⟨Lb, f, none⟩ (.slice (some ⟨g', 0, none⟩) ((R f).length + 1) cap')) Lb N (fun j => if j = f then .slice (some ⟨g', 0, none⟩) ((R f).length + 1) cap' else V j) (fun j => if j = f then R f ++ [y] else R j) ∧
    w4.cell? ⟨Lb, f, none⟩ = some (V f) ∧ w4.frozen? ⟨Lb, f, none⟩ = false := by
  have hlt : ∀ i, i < N → ∀ k, (V i).ownBlock = some k → Lb + 1 ≤ k ∧ k < w.heap.size := fun i hi k hk => World.ownsRow.lt (h.row i hi) k hk
  have ho4 : w4.rowIs Lb 79 N V := h.out.of_block (hgrow.block Lb h.out.lt (fun e => by have := (hlt f hf Lb e.symm).1; omega))
  refine ⟨⟨h.ge, ho4.set f _, fun i hi => ?_, fun i j hi hj hij b hb => ?_⟩, ho4.cell hf, ho4.frozen f⟩
  · by_cases e : i = f
    · subst e
      simp only [if_true, List.length_append, List.length_singleton, flatL_snoc]
      exact ownsRow_setCell_other hown (fun e => by have h9 : Lb + 1 ≤ Lb := (World.ownsRow.lt hown _ e).1; omega) _
    · simp only [e, if_false]
      refine ownsRow_setCell_other ((h.row i hi).kept hgrow ?_) (fun e2 => by have h9 : Lb + 1 ≤ Lb := (hlt i hi _ e2).1; omega) _
      cases hv : (V i).ownBlock with
      | none => exact .inl rfl
      | some b => exact .inr (fun e2 => h.apart i f hi hf e b hv (by rw [← e2]))
  · have new : ∀ b, some g' = some b → ∀ i, i < N → i ≠ f → (V i).ownBlock ≠ some b := fun b hb i hi hif he => by
      cases hb
      rcases hfr with hfr | hfr
      · exact h.apart i f hi hf hif g' he hfr
      · have := (hlt i hi _ he).2
        omega
    by_cases e1 : i = f
    · subst e1
      simp only [if_true] at hb
      rw [if_neg (fun e => hij e.symm)]
      exact new b hb j hj (fun e => hij e.symm)
    · rw [if_neg e1] at hb
      by_cases e2 : j = f
      · rw [if_pos e2]
        intro he
        exact new b he i hi e1 hb
      · rw [if_neg e2]
        exact h.apart i j hi hj hij b hb
/-- As those who read it see it. -/
theorem AdjL.lanes (h : AdjL B w Lb N V R) : Lanes w.heap.size w Lb N V R := by
  refine ⟨h.out.lt, h.out, fun i hi => ?_⟩
  obtain ⟨a, c, e⟩ := owns_shape (h.row i hi)
  refine ⟨a, c, e, rfl, ?_⟩
  by_cases h0 : (R i).length = 0
  · exact .inl h0
  · obtain ⟨D, cp, hv, _, hD, _⟩ := owns_some (h.row i hi) (by omega)
    have ho := h.row i hi
    rw [e] at hv
    injection hv with e1
    subst e1
    refine .inr ⟨D, 0, rfl, hD, fun j x hx => ?_⟩
    rw [Nat.zero_add]
    obtain ⟨c0, c1, c2⟩ := flatL_get _ j x hx
    have hj : j < (R i).length := (List.getElem?_eq_some_iff.1 hx).1
    rw [e] at ho
    exact ⟨(World.ownsRow.cellAt ho (j * 3) (by omega)).trans c0, (World.ownsRow.cellAt ho (j * 3 + 1) (by omega)).trans c1, (World.ownsRow.cellAt ho (j * 3 + 2) (by omega)).trans c2⟩
theorem infoLane : (Try.prog.info? 81).map (fun i => (i.zero, i.size, i.bytes)) = some (some (.agg #[.int .i64 0, .int .i64 0, .bool false]), 3, 24) := by kernel_rfl
theorem infoLanes : (Try.prog.info? 79).map (fun i => (i.zero, i.size, i.bytes)) = some (some (.slice none 0 0), 1, 24) := by kernel_rfl
theorem AdjL.start (hL : wr.heap.size = Lb) (hB : B ≤ Lb) (N : Nat) (l : List Pi) : AdjL B (wr.alloc (.cells (madeCells #[.slice none 0 0] N) 79)) Lb N (fun _ => .slice none 0 0) (fun i => lanesU l i 0) := by
  subst hL
  exact ⟨hB, World.rowIs_made _ _ _ _, fun i _ => World.ownsRow_nil _ _ _ 3, fun i j _ _ _ b hb => by cases hb⟩
structure LaW (w wr : World) (g : Nat) (nn : Int) (a : Option Addr) (len cap : Nat) (Lb N : Nat) (V : Nat → Value) (R : Nat → List La) : Prop where
  box : NBox w wr g nn a len cap
  adj : AdjL w.heap.size wr Lb N V R
  lt : g < Lb
theorem LaW.later (h : LaW w wr g nn a len cap Lb N V R) (hb : Below wr.heap.size wr w2) : LaW w w2 g nn a len cap Lb N V R := ⟨h.box.later hb, h.adj.later hb, h.lt⟩
theorem LaW.push (h : LaW w wr g nn a len cap Lb N V R) (hf : f < N) (hown : w4.ownsRow (Lb + 1) 81 3 (.slice (some ⟨g', 0, none⟩) ((R f).length + 1) cap') ((R f).length + 1) (flatL (R f) ++ laneC y))
    (hgrow : wr.grownBy w4 (V f).ownBlock) (hfr : (V f).ownBlock = some g' ∨ g' = wr.heap.size) :
    LaW w (w4.setCell ⟨Lb, f, none⟩ (.slice (some ⟨g', 0, none⟩) ((R f).length + 1) cap')) g nn a len cap Lb N (fun j => if j = f then .slice (some ⟨g', 0, none⟩) ((R f).length + 1) cap' else V j) (fun j => if j = f then R f ++ [y] else R j) := by
  have hlt : ∀ k, (V f).ownBlock = some k → Lb + 1 ≤ k ∧ k < wr.heap.size := fun k hk => World.ownsRow.lt (h.adj.row f hf) k hk
  have hge := h.adj.ge
  have hm : Mod (fun k => (V f).ownBlock = some k ∨ k = Lb) wr (w4.setCell ⟨Lb, f, none⟩ (.slice (some ⟨g', 0, none⟩) ((R f).length + 1) cap')) :=
    ((Mod.refl _ wr).grown hgrow (fun k hk => .inr (.inl hk))).setCell (p := ⟨Lb, f, none⟩) (.inr (.inr rfl)) _
  have hS : ∀ k, ((V f).ownBlock = some k ∨ k = Lb) → Lb ≤ k := fun k hk => by
    rcases hk with hk | hk
    · have := (hlt k hk).1; omega
    · omega
  refine ⟨⟨((Mod.of_below (fun k => (V f).ownBlock = some k ∨ k = Lb) h.box.below).trans hm).below (Nat.le_refl _) (fun k hk => Nat.le_trans hge (hS k hk)), h.box.ge, ?_⟩, (h.adj.push hf hown hgrow hfr).1, h.lt⟩
  rw [hm.block g h.box.lt (fun hk => by have := hS g hk; have := h.lt; omega)]
  exact h.box.blk
theorem LaW.congr (h : LaW w wr g nn a len cap Lb N V R) (e : ∀ i, i < N → R i = R2 i) : LaW w wr g nn a len cap Lb N V R2 := ⟨h.box, h.adj.congr e, h.lt⟩
/-- The pipe of the round. -/
def PipS (ab : Nat) (p q : Nat) (W : World) : Prop := W.cell? ⟨ab, 0, none⟩ = some (.int .i64 (p : Int)) ∧ W.cell? ⟨ab, 1, none⟩ = some (.int .i64 (q : Int)) ∧ ab < W.heap.size
theorem PipS.mod {S : Nat → Prop} {ab : Nat} (h : PipS ab p q w) (hm : Mod S w w2) (hs : ¬ S ab) : PipS ab p q w2 :=
  ⟨(hm.cell (p := ⟨ab, 0, none⟩) h.2.2 hs).trans h.1, (hm.cell (p := ⟨ab, 1, none⟩) h.2.2 hs).trans h.2.1, Nat.lt_of_lt_of_le h.2.2 hm.size⟩
theorem lanes_two {RB : Nat → List La} {rm cs : Int} (hpq : ¬ p = q) (h : (fun j => if j = p then lanesU l p k ++ [(k, q, false)] else lanesU l j k) = RB) (hq : RB q = lanesU l q k) :
    (if i = q then RB q ++ [(k, p, true)] else RB i) = lanesU l i k ++ laneOf k ((p : Int), (q : Int), rm, cs) i := by
  have h1 : ¬ (p : Int) = (q : Int) := by omega
  rw [hq, ← h]
  unfold laneOf
  simp only [h1, if_false, Int.toNat_natCast]
  by_cases e1 : i = q
  · subst e1
    rw [if_pos rfl, if_neg h1, if_pos rfl]
  · rw [if_neg e1]
    by_cases e2 : i = p
    · subst e2
      rw [if_pos rfl, if_pos rfl]
    · rw [if_neg e2, if_neg (by omega), if_neg (by omega), List.append_nil]
theorem newsL_at (w : World) (a : La) (T : TypeId) (z : Nat) (hz : w.heap.size = z) : ∀ (j : Nat) (u : Value), (laneC a)[j]? = some u → (w.alloc (.cells #[.int .i64 (a.1 : Int), .int .i64 (a.2.1 : Int), .bool a.2.2] T)).cell? ((⟨z, 0, none⟩ : Addr).add j) = some u := by
  subst hz
  intro j u hj
  rw [Addr.add_lit]
  match j, hj with
  | 0, hj => simp [laneC] at hj; subst hj; simp
  | 1, hj => simp [laneC] at hj; subst hj; simp
  | 2, hj => simp [laneC] at hj; subst hj; simp
theorem oneL (a : La) : ∀ u ∈ laneC a, u.oneCell' = true := by
  intro u hu
  simp [laneC] at hu
  rcases hu with rfl | rfl | rfl <;> rfl
set_option maxHeartbeats 4000000 in
set_option maxRecDepth 100000 in
theorem flanes_any (N : Nat) (hN : N ≤ 1000) (hlen : len ≤ 20000) (hok : ∀ x ∈ l, okP (N : Int) x = true) (a : Option Addr) (cap : Nat) (w : World) (hl : IsPipes w.heap.size w a len l) :
    Calls Try.prog 34 #[.agg #[.int .i64 (N : Int), .slice a len cap]] w fun e w' => ∃ Lb V, e = .returned (.slice (some ⟨Lb, 0, none⟩) N N) ∧ AdjL w.heap.size w' Lb N V (fun i => lanesU l i l.length) ∧ Below w.heap.size w w' := by
  obtain ⟨i0, hi, hz0, hz1, hz2⟩ := info_parts infoLane
  have hmk := run_make_row' (P := Try.prog) 60 79 (.slice none 0 0) 24 Try.underlying60 infoLanes rfl .i64 .i64 N (by omega) (by omega)
  have HOK := Lib.hid hok; clear hok
  have HLn : Hid (l.length = len) := Lib.hid hl.1
  have HL := Lib.hid hl; clear hl
  have HG0 : Hid (LaW w ((w.alloc (.cells #[.int .i64 (N : Int), .slice a len cap] 27)).alloc (.cells (madeCells #[.slice none 0 0] N) 79)) w.heap.size (N : Int) a len cap (w.heap.size + 1) N (fun _ => .slice none 0 0) (fun i => lanesU l i 0)) :=
    Lib.hid ⟨(NBox.make (Below.refl _ w) _ a len cap).alloc _, AdjL.start (by simp) (by simp) N l, by omega⟩
  go_enter Try.func34, Try.ntmps34
  go_wp2_with fail
  clear hmk
  obtain ⟨Lb, hL⟩ : ∃ L, L = w.heap.size + 1 := ⟨_, rfl⟩
  rw [← hL] at HG0 ⊢
  clear hL
  go_loopw [12] (fun i wr => ∃ (k : Nat) (V : Nat → Value), i = .int .i64 k ∧ k ≤ len ∧ Hid (LaW w wr w.heap.size (N : Int) a len cap Lb N V (fun i => lanesU l i k))) (fun i _ => len - (intOf i).toNat)
  case atStart => exact ⟨0, _, rfl, Nat.zero_le _, HG0⟩
  case round =>
    obtain ⟨k, V, rfl, hk, HX⟩ := hrel
    clear HG0
    by_cases hlt : k < len
    · obtain ⟨b, off, x, rfl, hb, hx, e0, e1, e2, e3⟩ := (HX.out.box.pipes HL.out).at_ hlt
      have hxo := okP_true.1 (HOK.out x (List.mem_of_getElem? hx))
      have HXT := Lib.hid (fun i => lanesU_step hx i)
      clear hx hb
      obtain ⟨f0, t0, rm, cs⟩ := x
      simp only at e0 e1 e2 e3 hxo
      obtain ⟨p, rfl⟩ : ∃ p : Nat, f0 = (p : Int) := ⟨f0.toNat, by omega⟩
      obtain ⟨q, rfl⟩ : ∃ q : Nat, t0 = (q : Int) := ⟨t0.toNat, by omega⟩
      have hp : p < N := by omega
      have hq : q < N := by omega
      clear hxo
      have HX1 := Lib.hid (HX.out.later ((Below.refl wr.heap.size wr).alloc (Nat.le_refl _) (.cells #[.int .i64 (p : Int), .int .i64 (q : Int), .int .i64 rm, .int .i64 cs] 47)))
      have HP1 : Hid (PipS wr.heap.size p q (wr.alloc (.cells #[.int .i64 (p : Int), .int .i64 (q : Int), .int .i64 rm, .int .i64 cs] 47))) := Lib.hid ⟨by simp, by simp, by simp⟩
      have HLL : Hid (Lb + 1 ≤ wr.heap.size) := Lib.hid (by have := HX.out.adj.out.lt; omega)
      by_cases hpq : p = q
      · subst hpq
        have HN := Lib.hid (HX1.out.congr (R2 := fun i => lanesU l i (k + 1)) (fun i _ => by rw [HXT.out]; simp [laneOf]))
        clear HX1 HP1
        go_wp2_with fail
        go_roundw
        case rel => exact ⟨k + 1, V, by go_num, by omega, HN⟩
        case measure => simp [intOf]; omega
      · have hpb : ((p : Int) == (q : Int)) = false := by simp; omega
        have HPQ := Lib.hid hpq
        clear hpq
        have HVL : Hid (∀ i, i < N → ∀ b, (V i).ownBlock = some b → b < wr.heap.size) := Lib.hid (fun i hi b hb => (World.ownsRow.lt (HX.out.adj.row i hi) b hb).2)
        go_wp2_with fail
        obtain ⟨ab, hab⟩ : ∃ ab, wr.heap.size = ab := ⟨_, rfl⟩
        obtain ⟨wa, hwa⟩ : ∃ wa, wr.alloc (.cells #[.int .i64 (p : Int), .int .i64 (q : Int), .int .i64 rm, .int .i64 cs] 47) = wa := ⟨_, rfl⟩
        have HSA : Hid (wa.heap.size = ab + 1) := Lib.hid (by rw [← hwa, ← hab]; simp)
        rw [hwa] at HX1 HP1
        rw [hab] at HP1 HLL HVL
        rw [hab, hwa]
        clear hab hwa HX e0 e1 e2 e3
        obtain ⟨vaA, vcA, hvA⟩ := owns_shape (HX1.out.adj.row p hp)
        have HVVA := Lib.hid hvA
        have HYA := Lib.hid (HX1.out.later (((Below.refl wa.heap.size wa).drew).alloc (Nat.le_refl _) (.cells #[.int .i64 (k : Int), .int .i64 (q : Int), .bool false] 81)))
        have cA := HX1.out.adj.out.cell hp
        have dA := HYA.out.adj.out.cell hp
        skip
        rw [hvA] at cA dA
        have d2A : (wa.alloc (.cells #[.int .i64 (k : Int), .int .i64 (q : Int), .bool false] 81)).cell? ⟨Lb, p, none⟩ = some (.slice vaA (lanesU l p k).length vcA) := dA
        obtain ⟨nlA, hnlA⟩ : ∃ m, (lanesU l p k).length = m := ⟨_, rfl⟩
        have HNLA := Lib.hid hnlA
        have hmlA : nlA ≤ 40000 := by have := lanesU_le l p k; omega
        have HOA : Hid ((wa.drew.alloc (.cells #[.int .i64 (k : Int), .int .i64 (q : Int), .bool false] 81)).ownsRow (Lb + 1) 81 3 (.slice vaA nlA vcA) nlA (flatL (lanesU l p k))) := Lib.hid (by have := HYA.out.adj.row p hp; rw [hvA] at this; simp only [hnlA] at this; exact this)
        rw [hnlA] at cA dA d2A
        have hvbA : (Value.slice vaA nlA vcA).ownBlock = (V p).ownBlock := by rw [hvA, hnlA]
        have HABA : Hid ((Value.slice vaA nlA vcA).ownBlock ≠ some ab) := Lib.hid (by rw [hvbA]; intro e; have := HVL.out p hp ab e; omega)
        have HVBA := Lib.hid hvbA
        have HDA := Lib.hid (show PipS ab p q wa.drew from HP1.out)
        have HSZA : Hid (Lb + 1 ≤ (wa.drew.alloc (.cells #[.int .i64 (k : Int), .int .i64 (q : Int), .bool false] 81)).heap.size) := Lib.hid (by have := HYA.out.adj.out.lt; omega)
        clear hvA hnlA hvbA
        refine wp_region_held_drew (S := PipS ab p q) (by kernel_rfl) HDA.out (fun hHeld => ?_)
        refine wpAnyH_take (i := 0) (v := ?_) rfl (by kernel_rfl) (by kernel_rfl) (by kernel_rfl) (fun _ _ _ h => h) (Or.inl ⟨by rfl, ?_⟩) hHeld ?_
        rotate_left
        · intro W0 hW; obtain ⟨hW1, hW2, hW3⟩ := hW; go_simp; (try with_reducible rfl)
        try simp only [Act.put, List.setIfInBounds_toArray, List.set_cons_zero, List.set_cons_succ, List.getElem_toArray, List.getElem_cons_zero]
        refine wpAnyH_take (i := 1) (v := ?_) rfl (by kernel_rfl) (by kernel_rfl) (by kernel_rfl) (fun _ _ _ h => h) (Or.inl ⟨by rfl, ?_⟩) hHeld ?_
        rotate_left
        · intro W0 hW; obtain ⟨hW1, hW2, hW3⟩ := hW; go_simp; (try with_reducible rfl)
        try simp only [Act.put, List.setIfInBounds_toArray, List.set_cons_zero, List.set_cons_succ, List.getElem_toArray, List.getElem_cons_zero, List.getElem_cons_succ]
        refine wpAnyH_take (i := 2) (v := ?_) rfl (by kernel_rfl) (by kernel_rfl) (by kernel_rfl) (fun _ _ _ h => h) (Or.inl ⟨by rfl, ?_⟩) hHeld ?_
        rotate_left
        · intro W0 hW; obtain ⟨hW1, hW2, hW3⟩ := hW; go_simp; (try with_reducible rfl)
        try simp only [Act.put, List.setIfInBounds_toArray, List.set_cons_zero, List.set_cons_succ, List.getElem_toArray, List.getElem_cons_zero, List.getElem_cons_succ]
        refine wpAnyH_take (i := 3) (v := ?_) rfl (by kernel_rfl) (by kernel_rfl) (by kernel_rfl) (fun _ _ _ h => h) (Or.inl ⟨by rfl, ?_⟩) hHeld ?_
        rotate_left
        · intro W0 hW; obtain ⟨hW1, hW2, hW3⟩ := hW; go_simp; (try with_reducible rfl)
        try simp only [Act.put, List.setIfInBounds_toArray, List.set_cons_zero, List.set_cons_succ, List.getElem_toArray, List.getElem_cons_zero, List.getElem_cons_succ]
        refine wpAnyH_take (i := 4) (v := ?_) rfl (by kernel_rfl) (by kernel_rfl) (by kernel_rfl) (fun _ _ _ h => h) (Or.inl ⟨by rfl, ?_⟩) hHeld ?_
        rotate_left
        · intro W0 hW; obtain ⟨hW1, hW2, hW3⟩ := hW; go_simp; (try with_reducible rfl)
        try simp only [Act.put, List.setIfInBounds_toArray, List.set_cons_zero, List.set_cons_succ, List.getElem_toArray, List.getElem_cons_zero, List.getElem_cons_succ]
        refine wpAnyH_take (i := 5) (v := ?_) rfl (by kernel_rfl) (by kernel_rfl) (by kernel_rfl) (fun _ _ _ h => h) (Or.inl ⟨by rfl, ?_⟩) hHeld ?_
        rotate_left
        · intro W0 hW; obtain ⟨hW1, hW2, hW3⟩ := hW; go_simp; (try with_reducible rfl)
        try simp only [Act.put, List.setIfInBounds_toArray, List.set_cons_zero, List.set_cons_succ, List.getElem_toArray, List.getElem_cons_zero, List.getElem_cons_succ]
        refine wpAnyH_take (i := 6) (v := ?_) rfl (by kernel_rfl) (by kernel_rfl) (by kernel_rfl) (fun _ _ _ h => h) (Or.inl ⟨by rfl, ?_⟩) hHeld ?_
        rotate_left
        · intro W0 hW; obtain ⟨hW1, hW2, hW3⟩ := hW; go_simp; (try with_reducible rfl)
        try simp only [Act.put, List.setIfInBounds_toArray, List.set_cons_zero, List.set_cons_succ, List.getElem_toArray, List.getElem_cons_zero, List.getElem_cons_succ]
        refine wpAnyH_take (i := 8) (v := ?_) rfl (by kernel_rfl) (by kernel_rfl) (by kernel_rfl) (fun _ _ _ h => h) (Or.inl ⟨by rfl, ?_⟩) hHeld ?_
        rotate_left
        · intro W0 hW; obtain ⟨hW1, hW2, hW3⟩ := hW; go_simp; (try with_reducible rfl)
        try simp only [Act.put, List.setIfInBounds_toArray, List.set_cons_zero, List.set_cons_succ, List.getElem_toArray, List.getElem_cons_zero, List.getElem_cons_succ]
        refine wpAnyH_take (i := 9) (v := ?_) rfl (by kernel_rfl) (by kernel_rfl) (by kernel_rfl) (fun _ _ _ h => h) (Or.inl ⟨by rfl, ?_⟩) hHeld ?_
        rotate_left
        · intro W0 hW; obtain ⟨hW1, hW2, hW3⟩ := hW; go_simp; (try with_reducible rfl)
        try simp only [Act.put, List.setIfInBounds_toArray, List.set_cons_zero, List.set_cons_succ, List.getElem_toArray, List.getElem_cons_zero, List.getElem_cons_succ]
        refine wpAnyH_take (i := 10) (v := ?_) rfl (by kernel_rfl) (by kernel_rfl) (by kernel_rfl) (fun _ _ _ h => h) (Or.inl ⟨by rfl, ?_⟩) hHeld ?_
        rotate_left
        · intro W0 hW; obtain ⟨hW1, hW2, hW3⟩ := hW; go_simp; (try with_reducible rfl)
        try simp only [Act.put, List.setIfInBounds_toArray, List.set_cons_zero, List.set_cons_succ, List.getElem_toArray, List.getElem_cons_zero, List.getElem_cons_succ]
        refine wpAnyH_take (i := 11) (v := ?_) rfl (by kernel_rfl) (by kernel_rfl) (by kernel_rfl) (fun _ _ _ h => h) (Or.inl ⟨by rfl, ?_⟩) hHeld ?_
        rotate_left
        · intro W0 hW; obtain ⟨hW1, hW2, hW3⟩ := hW; go_simp; (try with_reducible rfl)
        try simp only [Act.put, List.setIfInBounds_toArray, List.set_cons_zero, List.set_cons_succ, List.getElem_toArray, List.getElem_cons_zero, List.getElem_cons_succ]
        refine wpAnyH_ready (rs := [7, 12]) (by kernel_rfl) (by simp) ?_
        refine AllReadyH.cons rfl (fun K hK => ?_) (AllReadyH.cons rfl (fun K hK => ?_) AllReadyH.nil)
        · go_simp
          refine hK.out _ _ ?_ (fun hHeld => ?_)
          · exact hHeld
          clear hK K
          try simp only [Act.put, List.setIfInBounds_toArray, List.set_cons_zero, List.set_cons_succ, List.getElem_toArray, List.getElem_cons_zero, List.getElem_cons_succ]
          refine wpAnyH_ready (rs := [12]) (by kernel_rfl) (by simp) ?_
          refine AllReadyH.cons rfl (fun K hK => ?_) AllReadyH.nil
          go_simp
          refine hK.out _ _ ?_ (fun hHeld => ?_)
          · exact hHeld.mod ((Mod.refl (fun _ => False) _).alloc _) (fun h => h)
          clear hK K
          try simp only [Act.put, List.setIfInBounds_toArray, List.set_cons_zero, List.set_cons_succ, List.getElem_toArray, List.getElem_cons_zero, List.getElem_cons_succ]
          refine wpAnyH_ready (rs := [13]) (by kernel_rfl) (by simp) ?_
          refine AllReadyH.cons rfl (fun K hK => ?_) AllReadyH.nil
          refine step_append_fresh rfl (.tmp 29) (.tmp 34) 79 rfl (Lb + 1) 81 i0 _ 3 24 Try.underlying79 hi hz0 hz1 hz2 (by decide) (.slice vaA nlA vcA) nlA (flatL (lanesU l p k)) rfl HOA.out ⟨wa.heap.size, 0, none⟩ 1 (laneC (k, q, false)) rfl rfl (newsL_at _ (k, q, false) _ _ rfl) (oneL _) (by unfold maxLen; omega) (by omega) HSZA.out ?_
          intro gA cpA w4A hown hgrow hfr
          have x4 : PipS ab p q w4A := HDA.out.mod (((Mod.refl (fun k => (Value.slice vaA nlA vcA).ownBlock = some k) _).alloc _).grown hgrow (fun k hk => .inr hk)) HABA.out
          rw [HVBA.out] at hgrow hfr
          have hown2 := hown
          rw [← HNLA.out] at hown2
          obtain ⟨_, c4, f4⟩ := HYA.out.adj.push hp hown2 hgrow hfr
          skip
          have HZA := Lib.hid (HYA.out.push hp hown2 hgrow hfr)
          skip
          clear hown hown2 hgrow hfr
          refine hK.out _ _ ?_ (fun hHeld => ?_)
          · exact x4
          clear hK K
          try simp only [Act.put, List.setIfInBounds_toArray, List.set_cons_zero, List.set_cons_succ, List.getElem_toArray, List.getElem_cons_zero, List.getElem_cons_succ]
          refine wpAnyH_take (i := 14) (v := ?_) rfl (by kernel_rfl) (by kernel_rfl) (by kernel_rfl) (fun _ _ _ h => h) (Or.inl ⟨by rfl, ?_⟩) hHeld ?_
          rotate_left
          · intro W0 hW; obtain ⟨hW1, hW2, hW3⟩ := hW; go_simp; (try with_reducible rfl)
          try simp only [Act.put, List.setIfInBounds_toArray, List.set_cons_zero, List.set_cons_succ, List.getElem_toArray, List.getElem_cons_zero, List.getElem_cons_succ]
          refine wpAnyH_ready (rs := [15]) (by kernel_rfl) (by simp) ?_
          refine AllReadyH.cons rfl (fun K hK => ?_) AllReadyH.nil
          go_simp
          refine hK.out _ _ ?_ (fun hHeld => ?_)
          · exact x4.mod ((Mod.refl (fun b => b = Lb) _).setCell (p := ⟨Lb, p, none⟩) (.inr rfl) _) (fun h => by have h2 : ab = Lb := h; have := HLL.out; omega)
          clear hK K
          try simp only [Act.put, List.setIfInBounds_toArray, List.set_cons_zero, List.set_cons_succ, List.getElem_toArray, List.getElem_cons_zero, List.getElem_cons_succ]
          refine wpAnyH_done (by kernel_rfl) ?_ _
          rw [HNLA.out] at HZA
          clear c4 f4 x4
          have HQ1 := Lib.hid hHeld
          clear hHeld
          obtain ⟨wb, hwb⟩ : ∃ wb, w4A.setCell ⟨Lb, p, none⟩ (.slice (some ⟨gA, 0, none⟩) (nlA + 1) cpA) = wb := ⟨_, rfl⟩
          rw [hwb] at HZA HQ1 ⊢
          clear hwb cA dA d2A
          obtain ⟨VB, hVB⟩ : ∃ VB, (fun j => if j = p then Value.slice (some ⟨gA, 0, none⟩) (nlA + 1) cpA else V j) = VB := ⟨_, rfl⟩
          obtain ⟨RB, hRB⟩ : ∃ RB : Nat → List La, (fun j => if j = p then lanesU l p k ++ [(k, q, false)] else lanesU l j k) = RB := ⟨_, rfl⟩
          have HRB := Lib.hid hRB
          have HVBB := Lib.hid hVB
          rw [hVB, hRB] at HZA
          have HRQ : Hid (RB q = lanesU l q k) := Lib.hid (by rw [← hRB]; simp only; rw [if_neg (fun e => HPQ.out e.symm)])
          have HVQ : Hid ((VB q).ownBlock ≠ some ab) := Lib.hid (by rw [← hVB]; simp only; rw [if_neg (fun e => HPQ.out e.symm)]; intro e; have := HVL.out q hq ab e; omega)
          clear hVB hRB
          go_wp2_with fail
          obtain ⟨vaB, vcB, hvB⟩ := owns_shape (HZA.out.adj.row q hq)
          have HVVB := Lib.hid hvB
          have HYB := Lib.hid (HZA.out.later (((Below.refl wb.heap.size wb).drew).alloc (Nat.le_refl _) (.cells #[.int .i64 (k : Int), .int .i64 (p : Int), .bool true] 81)))
          have cB := HZA.out.adj.out.cell hq
          have dB := HYB.out.adj.out.cell hq
          skip
          rw [hvB] at cB dB
          have d2B : (wb.alloc (.cells #[.int .i64 (k : Int), .int .i64 (p : Int), .bool true] 81)).cell? ⟨Lb, q, none⟩ = some (.slice vaB (RB q).length vcB) := dB
          obtain ⟨nlB, hnlB⟩ : ∃ m, (RB q).length = m := ⟨_, rfl⟩
          have HNLB := Lib.hid hnlB
          have hmlB : nlB ≤ 40000 := by rw [← hnlB, HRQ.out]; have := lanesU_le l q k; omega
          have HOB : Hid ((wb.drew.alloc (.cells #[.int .i64 (k : Int), .int .i64 (p : Int), .bool true] 81)).ownsRow (Lb + 1) 81 3 (.slice vaB nlB vcB) nlB (flatL (RB q))) := Lib.hid (by have := HYB.out.adj.row q hq; rw [hvB] at this; simp only [hnlB] at this; exact this)
          rw [hnlB] at cB dB d2B
          have hvbB : (Value.slice vaB nlB vcB).ownBlock = (VB q).ownBlock := by rw [hvB, hnlB]
          have HABB : Hid ((Value.slice vaB nlB vcB).ownBlock ≠ some ab) := Lib.hid (by rw [hvbB]; exact HVQ.out)
          have HVBB := Lib.hid hvbB
          have HDB := Lib.hid (show PipS ab p q wb.drew from HQ1.out)
          have HSZB : Hid (Lb + 1 ≤ (wb.drew.alloc (.cells #[.int .i64 (k : Int), .int .i64 (p : Int), .bool true] 81)).heap.size) := Lib.hid (by have := HYB.out.adj.out.lt; omega)
          clear hvB hnlB hvbB
          refine wp_region_held_drew (S := PipS ab p q) (by kernel_rfl) HDB.out (fun hHeld => ?_)
          refine wpAnyH_take (i := 0) (v := ?_) rfl (by kernel_rfl) (by kernel_rfl) (by kernel_rfl) (fun _ _ _ h => h) (Or.inl ⟨by rfl, ?_⟩) hHeld ?_
          rotate_left
          · intro W0 hW; obtain ⟨hW1, hW2, hW3⟩ := hW; go_simp; (try with_reducible rfl)
          try simp only [Act.put, List.setIfInBounds_toArray, List.set_cons_zero, List.set_cons_succ, List.getElem_toArray, List.getElem_cons_zero]
          refine wpAnyH_take (i := 1) (v := ?_) rfl (by kernel_rfl) (by kernel_rfl) (by kernel_rfl) (fun _ _ _ h => h) (Or.inl ⟨by rfl, ?_⟩) hHeld ?_
          rotate_left
          · intro W0 hW; obtain ⟨hW1, hW2, hW3⟩ := hW; go_simp; (try with_reducible rfl)
          try simp only [Act.put, List.setIfInBounds_toArray, List.set_cons_zero, List.set_cons_succ, List.getElem_toArray, List.getElem_cons_zero, List.getElem_cons_succ]
          refine wpAnyH_take (i := 2) (v := ?_) rfl (by kernel_rfl) (by kernel_rfl) (by kernel_rfl) (fun _ _ _ h => h) (Or.inl ⟨by rfl, ?_⟩) hHeld ?_
          rotate_left
          · intro W0 hW; obtain ⟨hW1, hW2, hW3⟩ := hW; go_simp; (try with_reducible rfl)
          try simp only [Act.put, List.setIfInBounds_toArray, List.set_cons_zero, List.set_cons_succ, List.getElem_toArray, List.getElem_cons_zero, List.getElem_cons_succ]
          refine wpAnyH_take (i := 3) (v := ?_) rfl (by kernel_rfl) (by kernel_rfl) (by kernel_rfl) (fun _ _ _ h => h) (Or.inl ⟨by rfl, ?_⟩) hHeld ?_
          rotate_left
          · intro W0 hW; obtain ⟨hW1, hW2, hW3⟩ := hW; go_simp; (try with_reducible rfl)
          try simp only [Act.put, List.setIfInBounds_toArray, List.set_cons_zero, List.set_cons_succ, List.getElem_toArray, List.getElem_cons_zero, List.getElem_cons_succ]
          refine wpAnyH_take (i := 4) (v := ?_) rfl (by kernel_rfl) (by kernel_rfl) (by kernel_rfl) (fun _ _ _ h => h) (Or.inl ⟨by rfl, ?_⟩) hHeld ?_
          rotate_left
          · intro W0 hW; obtain ⟨hW1, hW2, hW3⟩ := hW; go_simp; (try with_reducible rfl)
          try simp only [Act.put, List.setIfInBounds_toArray, List.set_cons_zero, List.set_cons_succ, List.getElem_toArray, List.getElem_cons_zero, List.getElem_cons_succ]
          refine wpAnyH_take (i := 5) (v := ?_) rfl (by kernel_rfl) (by kernel_rfl) (by kernel_rfl) (fun _ _ _ h => h) (Or.inl ⟨by rfl, ?_⟩) hHeld ?_
          rotate_left
          · intro W0 hW; obtain ⟨hW1, hW2, hW3⟩ := hW; go_simp; (try with_reducible rfl)
          try simp only [Act.put, List.setIfInBounds_toArray, List.set_cons_zero, List.set_cons_succ, List.getElem_toArray, List.getElem_cons_zero, List.getElem_cons_succ]
          refine wpAnyH_take (i := 6) (v := ?_) rfl (by kernel_rfl) (by kernel_rfl) (by kernel_rfl) (fun _ _ _ h => h) (Or.inl ⟨by rfl, ?_⟩) hHeld ?_
          rotate_left
          · intro W0 hW; obtain ⟨hW1, hW2, hW3⟩ := hW; go_simp; (try with_reducible rfl)
          try simp only [Act.put, List.setIfInBounds_toArray, List.set_cons_zero, List.set_cons_succ, List.getElem_toArray, List.getElem_cons_zero, List.getElem_cons_succ]
          refine wpAnyH_take (i := 8) (v := ?_) rfl (by kernel_rfl) (by kernel_rfl) (by kernel_rfl) (fun _ _ _ h => h) (Or.inl ⟨by rfl, ?_⟩) hHeld ?_
          rotate_left
          · intro W0 hW; obtain ⟨hW1, hW2, hW3⟩ := hW; go_simp; (try with_reducible rfl)
          try simp only [Act.put, List.setIfInBounds_toArray, List.set_cons_zero, List.set_cons_succ, List.getElem_toArray, List.getElem_cons_zero, List.getElem_cons_succ]
          refine wpAnyH_take (i := 9) (v := ?_) rfl (by kernel_rfl) (by kernel_rfl) (by kernel_rfl) (fun _ _ _ h => h) (Or.inl ⟨by rfl, ?_⟩) hHeld ?_
          rotate_left
          · intro W0 hW; obtain ⟨hW1, hW2, hW3⟩ := hW; go_simp; (try with_reducible rfl)
          try simp only [Act.put, List.setIfInBounds_toArray, List.set_cons_zero, List.set_cons_succ, List.getElem_toArray, List.getElem_cons_zero, List.getElem_cons_succ]
          refine wpAnyH_take (i := 10) (v := ?_) rfl (by kernel_rfl) (by kernel_rfl) (by kernel_rfl) (fun _ _ _ h => h) (Or.inl ⟨by rfl, ?_⟩) hHeld ?_
          rotate_left
          · intro W0 hW; obtain ⟨hW1, hW2, hW3⟩ := hW; go_simp; (try with_reducible rfl)
          try simp only [Act.put, List.setIfInBounds_toArray, List.set_cons_zero, List.set_cons_succ, List.getElem_toArray, List.getElem_cons_zero, List.getElem_cons_succ]
          refine wpAnyH_take (i := 11) (v := ?_) rfl (by kernel_rfl) (by kernel_rfl) (by kernel_rfl) (fun _ _ _ h => h) (Or.inl ⟨by rfl, ?_⟩) hHeld ?_
          rotate_left
          · intro W0 hW; obtain ⟨hW1, hW2, hW3⟩ := hW; go_simp; (try with_reducible rfl)
          try simp only [Act.put, List.setIfInBounds_toArray, List.set_cons_zero, List.set_cons_succ, List.getElem_toArray, List.getElem_cons_zero, List.getElem_cons_succ]
          refine wpAnyH_ready (rs := [7, 12]) (by kernel_rfl) (by simp) ?_
          refine AllReadyH.cons rfl (fun K hK => ?_) (AllReadyH.cons rfl (fun K hK => ?_) AllReadyH.nil)
          · go_simp
            refine hK.out _ _ ?_ (fun hHeld => ?_)
            · exact hHeld
            clear hK K
            try simp only [Act.put, List.setIfInBounds_toArray, List.set_cons_zero, List.set_cons_succ, List.getElem_toArray, List.getElem_cons_zero, List.getElem_cons_succ]
            refine wpAnyH_ready (rs := [12]) (by kernel_rfl) (by simp) ?_
            refine AllReadyH.cons rfl (fun K hK => ?_) AllReadyH.nil
            go_simp
            refine hK.out _ _ ?_ (fun hHeld => ?_)
            · exact hHeld.mod ((Mod.refl (fun _ => False) _).alloc _) (fun h => h)
            clear hK K
            try simp only [Act.put, List.setIfInBounds_toArray, List.set_cons_zero, List.set_cons_succ, List.getElem_toArray, List.getElem_cons_zero, List.getElem_cons_succ]
            refine wpAnyH_ready (rs := [13]) (by kernel_rfl) (by simp) ?_
            refine AllReadyH.cons rfl (fun K hK => ?_) AllReadyH.nil
            refine step_append_fresh rfl (.tmp 44) (.tmp 49) 79 rfl (Lb + 1) 81 i0 _ 3 24 Try.underlying79 hi hz0 hz1 hz2 (by decide) (.slice vaB nlB vcB) nlB (flatL (RB q)) rfl HOB.out ⟨wb.heap.size, 0, none⟩ 1 (laneC (k, p, true)) rfl rfl (newsL_at _ (k, p, true) _ _ rfl) (oneL _) (by unfold maxLen; omega) (by omega) HSZB.out ?_
            intro gB cpB w4B hown hgrow hfr
            have x4 : PipS ab p q w4B := HDB.out.mod (((Mod.refl (fun k => (Value.slice vaB nlB vcB).ownBlock = some k) _).alloc _).grown hgrow (fun k hk => .inr hk)) HABB.out
            rw [HVBB.out] at hgrow hfr
            have hown2 := hown
            rw [← HNLB.out] at hown2
            obtain ⟨_, c4, f4⟩ := HYB.out.adj.push hq hown2 hgrow hfr
            skip
            have HZB := Lib.hid (HYB.out.push hq hown2 hgrow hfr)
            skip
            clear hown hown2 hgrow hfr
            refine hK.out _ _ ?_ (fun hHeld => ?_)
            · exact x4
            clear hK K
            try simp only [Act.put, List.setIfInBounds_toArray, List.set_cons_zero, List.set_cons_succ, List.getElem_toArray, List.getElem_cons_zero, List.getElem_cons_succ]
            refine wpAnyH_take (i := 14) (v := ?_) rfl (by kernel_rfl) (by kernel_rfl) (by kernel_rfl) (fun _ _ _ h => h) (Or.inl ⟨by rfl, ?_⟩) hHeld ?_
            rotate_left
            · intro W0 hW; obtain ⟨hW1, hW2, hW3⟩ := hW; go_simp; (try with_reducible rfl)
            try simp only [Act.put, List.setIfInBounds_toArray, List.set_cons_zero, List.set_cons_succ, List.getElem_toArray, List.getElem_cons_zero, List.getElem_cons_succ]
            refine wpAnyH_ready (rs := [15]) (by kernel_rfl) (by simp) ?_
            refine AllReadyH.cons rfl (fun K hK => ?_) AllReadyH.nil
            go_simp
            refine hK.out _ _ ?_ (fun hHeld => ?_)
            · exact x4.mod ((Mod.refl (fun b => b = Lb) _).setCell (p := ⟨Lb, q, none⟩) (.inr rfl) _) (fun h => by have h2 : ab = Lb := h; have := HLL.out; omega)
            clear hK K
            try simp only [Act.put, List.setIfInBounds_toArray, List.set_cons_zero, List.set_cons_succ, List.getElem_toArray, List.getElem_cons_zero, List.getElem_cons_succ]
            refine wpAnyH_done (by kernel_rfl) ?_ _
            rw [HNLB.out] at HZB
            clear c4 f4 x4
            clear hHeld
            go_wp2_with fail
            go_roundw
            case rel => exact ⟨k + 1, _, by go_num, by omega, Lib.hid (HZB.out.congr (R2 := fun i => lanesU l i (k + 1)) (fun i _ => by rw [HXT.out]; exact lanes_two HPQ.out HRB.out HRQ.out))⟩
            case measure => simp [intOf]; omega
          · go_simp
            refine hK.out _ _ ?_ (fun hHeld => ?_)
            · exact hHeld.mod ((Mod.refl (fun _ => False) _).alloc _) (fun h => h)
            clear hK K
            try simp only [Act.put, List.setIfInBounds_toArray, List.set_cons_zero, List.set_cons_succ, List.getElem_toArray, List.getElem_cons_zero, List.getElem_cons_succ]
            refine wpAnyH_ready (rs := [7]) (by kernel_rfl) (by simp) ?_
            refine AllReadyH.cons rfl (fun K hK => ?_) AllReadyH.nil
            go_simp
            refine hK.out _ _ ?_ (fun hHeld => ?_)
            · exact hHeld
            clear hK K
            try simp only [Act.put, List.setIfInBounds_toArray, List.set_cons_zero, List.set_cons_succ, List.getElem_toArray, List.getElem_cons_zero, List.getElem_cons_succ]
            refine wpAnyH_ready (rs := [13]) (by kernel_rfl) (by simp) ?_
            refine AllReadyH.cons rfl (fun K hK => ?_) AllReadyH.nil
            refine step_append_fresh rfl (.tmp 44) (.tmp 49) 79 rfl (Lb + 1) 81 i0 _ 3 24 Try.underlying79 hi hz0 hz1 hz2 (by decide) (.slice vaB nlB vcB) nlB (flatL (RB q)) rfl HOB.out ⟨wb.heap.size, 0, none⟩ 1 (laneC (k, p, true)) rfl rfl (newsL_at _ (k, p, true) _ _ rfl) (oneL _) (by unfold maxLen; omega) (by omega) HSZB.out ?_
            intro gB cpB w4B hown hgrow hfr
            have x4 : PipS ab p q w4B := HDB.out.mod (((Mod.refl (fun k => (Value.slice vaB nlB vcB).ownBlock = some k) _).alloc _).grown hgrow (fun k hk => .inr hk)) HABB.out
            rw [HVBB.out] at hgrow hfr
            have hown2 := hown
            rw [← HNLB.out] at hown2
            obtain ⟨_, c4, f4⟩ := HYB.out.adj.push hq hown2 hgrow hfr
            skip
            have HZB := Lib.hid (HYB.out.push hq hown2 hgrow hfr)
            skip
            clear hown hown2 hgrow hfr
            refine hK.out _ _ ?_ (fun hHeld => ?_)
            · exact x4
            clear hK K
            try simp only [Act.put, List.setIfInBounds_toArray, List.set_cons_zero, List.set_cons_succ, List.getElem_toArray, List.getElem_cons_zero, List.getElem_cons_succ]
            refine wpAnyH_take (i := 14) (v := ?_) rfl (by kernel_rfl) (by kernel_rfl) (by kernel_rfl) (fun _ _ _ h => h) (Or.inl ⟨by rfl, ?_⟩) hHeld ?_
            rotate_left
            · intro W0 hW; obtain ⟨hW1, hW2, hW3⟩ := hW; go_simp; (try with_reducible rfl)
            try simp only [Act.put, List.setIfInBounds_toArray, List.set_cons_zero, List.set_cons_succ, List.getElem_toArray, List.getElem_cons_zero, List.getElem_cons_succ]
            refine wpAnyH_ready (rs := [15]) (by kernel_rfl) (by simp) ?_
            refine AllReadyH.cons rfl (fun K hK => ?_) AllReadyH.nil
            go_simp
            refine hK.out _ _ ?_ (fun hHeld => ?_)
            · exact x4.mod ((Mod.refl (fun b => b = Lb) _).setCell (p := ⟨Lb, q, none⟩) (.inr rfl) _) (fun h => by have h2 : ab = Lb := h; have := HLL.out; omega)
            clear hK K
            try simp only [Act.put, List.setIfInBounds_toArray, List.set_cons_zero, List.set_cons_succ, List.getElem_toArray, List.getElem_cons_zero, List.getElem_cons_succ]
            refine wpAnyH_done (by kernel_rfl) ?_ _
            rw [HNLB.out] at HZB
            clear c4 f4 x4
            clear hHeld
            go_wp2_with fail
            go_roundw
            case rel => exact ⟨k + 1, _, by go_num, by omega, Lib.hid (HZB.out.congr (R2 := fun i => lanesU l i (k + 1)) (fun i _ => by rw [HXT.out]; exact lanes_two HPQ.out HRB.out HRQ.out))⟩
            case measure => simp [intOf]; omega
        · go_simp
          refine hK.out _ _ ?_ (fun hHeld => ?_)
          · exact hHeld.mod ((Mod.refl (fun _ => False) _).alloc _) (fun h => h)
          clear hK K
          try simp only [Act.put, List.setIfInBounds_toArray, List.set_cons_zero, List.set_cons_succ, List.getElem_toArray, List.getElem_cons_zero, List.getElem_cons_succ]
          refine wpAnyH_ready (rs := [7]) (by kernel_rfl) (by simp) ?_
          refine AllReadyH.cons rfl (fun K hK => ?_) AllReadyH.nil
          go_simp
          refine hK.out _ _ ?_ (fun hHeld => ?_)
          · exact hHeld
          clear hK K
          try simp only [Act.put, List.setIfInBounds_toArray, List.set_cons_zero, List.set_cons_succ, List.getElem_toArray, List.getElem_cons_zero, List.getElem_cons_succ]
          refine wpAnyH_ready (rs := [13]) (by kernel_rfl) (by simp) ?_
          refine AllReadyH.cons rfl (fun K hK => ?_) AllReadyH.nil
          refine step_append_fresh rfl (.tmp 29) (.tmp 34) 79 rfl (Lb + 1) 81 i0 _ 3 24 Try.underlying79 hi hz0 hz1 hz2 (by decide) (.slice vaA nlA vcA) nlA (flatL (lanesU l p k)) rfl HOA.out ⟨wa.heap.size, 0, none⟩ 1 (laneC (k, q, false)) rfl rfl (newsL_at _ (k, q, false) _ _ rfl) (oneL _) (by unfold maxLen; omega) (by omega) HSZA.out ?_
          intro gA cpA w4A hown hgrow hfr
          have x4 : PipS ab p q w4A := HDA.out.mod (((Mod.refl (fun k => (Value.slice vaA nlA vcA).ownBlock = some k) _).alloc _).grown hgrow (fun k hk => .inr hk)) HABA.out
          rw [HVBA.out] at hgrow hfr
          have hown2 := hown
          rw [← HNLA.out] at hown2
          obtain ⟨_, c4, f4⟩ := HYA.out.adj.push hp hown2 hgrow hfr
          skip
          have HZA := Lib.hid (HYA.out.push hp hown2 hgrow hfr)
          skip
          clear hown hown2 hgrow hfr
          refine hK.out _ _ ?_ (fun hHeld => ?_)
          · exact x4
          clear hK K
          try simp only [Act.put, List.setIfInBounds_toArray, List.set_cons_zero, List.set_cons_succ, List.getElem_toArray, List.getElem_cons_zero, List.getElem_cons_succ]
          refine wpAnyH_take (i := 14) (v := ?_) rfl (by kernel_rfl) (by kernel_rfl) (by kernel_rfl) (fun _ _ _ h => h) (Or.inl ⟨by rfl, ?_⟩) hHeld ?_
          rotate_left
          · intro W0 hW; obtain ⟨hW1, hW2, hW3⟩ := hW; go_simp; (try with_reducible rfl)
          try simp only [Act.put, List.setIfInBounds_toArray, List.set_cons_zero, List.set_cons_succ, List.getElem_toArray, List.getElem_cons_zero, List.getElem_cons_succ]
          refine wpAnyH_ready (rs := [15]) (by kernel_rfl) (by simp) ?_
          refine AllReadyH.cons rfl (fun K hK => ?_) AllReadyH.nil
          go_simp
          refine hK.out _ _ ?_ (fun hHeld => ?_)
          · exact x4.mod ((Mod.refl (fun b => b = Lb) _).setCell (p := ⟨Lb, p, none⟩) (.inr rfl) _) (fun h => by have h2 : ab = Lb := h; have := HLL.out; omega)
          clear hK K
          try simp only [Act.put, List.setIfInBounds_toArray, List.set_cons_zero, List.set_cons_succ, List.getElem_toArray, List.getElem_cons_zero, List.getElem_cons_succ]
          refine wpAnyH_done (by kernel_rfl) ?_ _
          rw [HNLA.out] at HZA
          clear c4 f4 x4
          have HQ1 := Lib.hid hHeld
          clear hHeld
          obtain ⟨wb, hwb⟩ : ∃ wb, w4A.setCell ⟨Lb, p, none⟩ (.slice (some ⟨gA, 0, none⟩) (nlA + 1) cpA) = wb := ⟨_, rfl⟩
          rw [hwb] at HZA HQ1 ⊢
          clear hwb cA dA d2A
          obtain ⟨VB, hVB⟩ : ∃ VB, (fun j => if j = p then Value.slice (some ⟨gA, 0, none⟩) (nlA + 1) cpA else V j) = VB := ⟨_, rfl⟩
          obtain ⟨RB, hRB⟩ : ∃ RB : Nat → List La, (fun j => if j = p then lanesU l p k ++ [(k, q, false)] else lanesU l j k) = RB := ⟨_, rfl⟩
          have HRB := Lib.hid hRB
          have HVBB := Lib.hid hVB
          rw [hVB, hRB] at HZA
          have HRQ : Hid (RB q = lanesU l q k) := Lib.hid (by rw [← hRB]; simp only; rw [if_neg (fun e => HPQ.out e.symm)])
          have HVQ : Hid ((VB q).ownBlock ≠ some ab) := Lib.hid (by rw [← hVB]; simp only; rw [if_neg (fun e => HPQ.out e.symm)]; intro e; have := HVL.out q hq ab e; omega)
          clear hVB hRB
          go_wp2_with fail
          obtain ⟨vaB, vcB, hvB⟩ := owns_shape (HZA.out.adj.row q hq)
          have HVVB := Lib.hid hvB
          have HYB := Lib.hid (HZA.out.later (((Below.refl wb.heap.size wb).drew).alloc (Nat.le_refl _) (.cells #[.int .i64 (k : Int), .int .i64 (p : Int), .bool true] 81)))
          have cB := HZA.out.adj.out.cell hq
          have dB := HYB.out.adj.out.cell hq
          skip
          rw [hvB] at cB dB
          have d2B : (wb.alloc (.cells #[.int .i64 (k : Int), .int .i64 (p : Int), .bool true] 81)).cell? ⟨Lb, q, none⟩ = some (.slice vaB (RB q).length vcB) := dB
          obtain ⟨nlB, hnlB⟩ : ∃ m, (RB q).length = m := ⟨_, rfl⟩
          have HNLB := Lib.hid hnlB
          have hmlB : nlB ≤ 40000 := by rw [← hnlB, HRQ.out]; have := lanesU_le l q k; omega
          have HOB : Hid ((wb.drew.alloc (.cells #[.int .i64 (k : Int), .int .i64 (p : Int), .bool true] 81)).ownsRow (Lb + 1) 81 3 (.slice vaB nlB vcB) nlB (flatL (RB q))) := Lib.hid (by have := HYB.out.adj.row q hq; rw [hvB] at this; simp only [hnlB] at this; exact this)
          rw [hnlB] at cB dB d2B
          have hvbB : (Value.slice vaB nlB vcB).ownBlock = (VB q).ownBlock := by rw [hvB, hnlB]
          have HABB : Hid ((Value.slice vaB nlB vcB).ownBlock ≠ some ab) := Lib.hid (by rw [hvbB]; exact HVQ.out)
          have HVBB := Lib.hid hvbB
          have HDB := Lib.hid (show PipS ab p q wb.drew from HQ1.out)
          have HSZB : Hid (Lb + 1 ≤ (wb.drew.alloc (.cells #[.int .i64 (k : Int), .int .i64 (p : Int), .bool true] 81)).heap.size) := Lib.hid (by have := HYB.out.adj.out.lt; omega)
          clear hvB hnlB hvbB
          refine wp_region_held_drew (S := PipS ab p q) (by kernel_rfl) HDB.out (fun hHeld => ?_)
          refine wpAnyH_take (i := 0) (v := ?_) rfl (by kernel_rfl) (by kernel_rfl) (by kernel_rfl) (fun _ _ _ h => h) (Or.inl ⟨by rfl, ?_⟩) hHeld ?_
          rotate_left
          · intro W0 hW; obtain ⟨hW1, hW2, hW3⟩ := hW; go_simp; (try with_reducible rfl)
          try simp only [Act.put, List.setIfInBounds_toArray, List.set_cons_zero, List.set_cons_succ, List.getElem_toArray, List.getElem_cons_zero]
          refine wpAnyH_take (i := 1) (v := ?_) rfl (by kernel_rfl) (by kernel_rfl) (by kernel_rfl) (fun _ _ _ h => h) (Or.inl ⟨by rfl, ?_⟩) hHeld ?_
          rotate_left
          · intro W0 hW; obtain ⟨hW1, hW2, hW3⟩ := hW; go_simp; (try with_reducible rfl)
          try simp only [Act.put, List.setIfInBounds_toArray, List.set_cons_zero, List.set_cons_succ, List.getElem_toArray, List.getElem_cons_zero, List.getElem_cons_succ]
          refine wpAnyH_take (i := 2) (v := ?_) rfl (by kernel_rfl) (by kernel_rfl) (by kernel_rfl) (fun _ _ _ h => h) (Or.inl ⟨by rfl, ?_⟩) hHeld ?_
          rotate_left
          · intro W0 hW; obtain ⟨hW1, hW2, hW3⟩ := hW; go_simp; (try with_reducible rfl)
          try simp only [Act.put, List.setIfInBounds_toArray, List.set_cons_zero, List.set_cons_succ, List.getElem_toArray, List.getElem_cons_zero, List.getElem_cons_succ]
          refine wpAnyH_take (i := 3) (v := ?_) rfl (by kernel_rfl) (by kernel_rfl) (by kernel_rfl) (fun _ _ _ h => h) (Or.inl ⟨by rfl, ?_⟩) hHeld ?_
          rotate_left
          · intro W0 hW; obtain ⟨hW1, hW2, hW3⟩ := hW; go_simp; (try with_reducible rfl)
          try simp only [Act.put, List.setIfInBounds_toArray, List.set_cons_zero, List.set_cons_succ, List.getElem_toArray, List.getElem_cons_zero, List.getElem_cons_succ]
          refine wpAnyH_take (i := 4) (v := ?_) rfl (by kernel_rfl) (by kernel_rfl) (by kernel_rfl) (fun _ _ _ h => h) (Or.inl ⟨by rfl, ?_⟩) hHeld ?_
          rotate_left
          · intro W0 hW; obtain ⟨hW1, hW2, hW3⟩ := hW; go_simp; (try with_reducible rfl)
          try simp only [Act.put, List.setIfInBounds_toArray, List.set_cons_zero, List.set_cons_succ, List.getElem_toArray, List.getElem_cons_zero, List.getElem_cons_succ]
          refine wpAnyH_take (i := 5) (v := ?_) rfl (by kernel_rfl) (by kernel_rfl) (by kernel_rfl) (fun _ _ _ h => h) (Or.inl ⟨by rfl, ?_⟩) hHeld ?_
          rotate_left
          · intro W0 hW; obtain ⟨hW1, hW2, hW3⟩ := hW; go_simp; (try with_reducible rfl)
          try simp only [Act.put, List.setIfInBounds_toArray, List.set_cons_zero, List.set_cons_succ, List.getElem_toArray, List.getElem_cons_zero, List.getElem_cons_succ]
          refine wpAnyH_take (i := 6) (v := ?_) rfl (by kernel_rfl) (by kernel_rfl) (by kernel_rfl) (fun _ _ _ h => h) (Or.inl ⟨by rfl, ?_⟩) hHeld ?_
          rotate_left
          · intro W0 hW; obtain ⟨hW1, hW2, hW3⟩ := hW; go_simp; (try with_reducible rfl)
          try simp only [Act.put, List.setIfInBounds_toArray, List.set_cons_zero, List.set_cons_succ, List.getElem_toArray, List.getElem_cons_zero, List.getElem_cons_succ]
          refine wpAnyH_take (i := 8) (v := ?_) rfl (by kernel_rfl) (by kernel_rfl) (by kernel_rfl) (fun _ _ _ h => h) (Or.inl ⟨by rfl, ?_⟩) hHeld ?_
          rotate_left
          · intro W0 hW; obtain ⟨hW1, hW2, hW3⟩ := hW; go_simp; (try with_reducible rfl)
          try simp only [Act.put, List.setIfInBounds_toArray, List.set_cons_zero, List.set_cons_succ, List.getElem_toArray, List.getElem_cons_zero, List.getElem_cons_succ]
          refine wpAnyH_take (i := 9) (v := ?_) rfl (by kernel_rfl) (by kernel_rfl) (by kernel_rfl) (fun _ _ _ h => h) (Or.inl ⟨by rfl, ?_⟩) hHeld ?_
          rotate_left
          · intro W0 hW; obtain ⟨hW1, hW2, hW3⟩ := hW; go_simp; (try with_reducible rfl)
          try simp only [Act.put, List.setIfInBounds_toArray, List.set_cons_zero, List.set_cons_succ, List.getElem_toArray, List.getElem_cons_zero, List.getElem_cons_succ]
          refine wpAnyH_take (i := 10) (v := ?_) rfl (by kernel_rfl) (by kernel_rfl) (by kernel_rfl) (fun _ _ _ h => h) (Or.inl ⟨by rfl, ?_⟩) hHeld ?_
          rotate_left
          · intro W0 hW; obtain ⟨hW1, hW2, hW3⟩ := hW; go_simp; (try with_reducible rfl)
          try simp only [Act.put, List.setIfInBounds_toArray, List.set_cons_zero, List.set_cons_succ, List.getElem_toArray, List.getElem_cons_zero, List.getElem_cons_succ]
          refine wpAnyH_take (i := 11) (v := ?_) rfl (by kernel_rfl) (by kernel_rfl) (by kernel_rfl) (fun _ _ _ h => h) (Or.inl ⟨by rfl, ?_⟩) hHeld ?_
          rotate_left
          · intro W0 hW; obtain ⟨hW1, hW2, hW3⟩ := hW; go_simp; (try with_reducible rfl)
          try simp only [Act.put, List.setIfInBounds_toArray, List.set_cons_zero, List.set_cons_succ, List.getElem_toArray, List.getElem_cons_zero, List.getElem_cons_succ]
          refine wpAnyH_ready (rs := [7, 12]) (by kernel_rfl) (by simp) ?_
          refine AllReadyH.cons rfl (fun K hK => ?_) (AllReadyH.cons rfl (fun K hK => ?_) AllReadyH.nil)
          · go_simp
            refine hK.out _ _ ?_ (fun hHeld => ?_)
            · exact hHeld
            clear hK K
            try simp only [Act.put, List.setIfInBounds_toArray, List.set_cons_zero, List.set_cons_succ, List.getElem_toArray, List.getElem_cons_zero, List.getElem_cons_succ]
            refine wpAnyH_ready (rs := [12]) (by kernel_rfl) (by simp) ?_
            refine AllReadyH.cons rfl (fun K hK => ?_) AllReadyH.nil
            go_simp
            refine hK.out _ _ ?_ (fun hHeld => ?_)
            · exact hHeld.mod ((Mod.refl (fun _ => False) _).alloc _) (fun h => h)
            clear hK K
            try simp only [Act.put, List.setIfInBounds_toArray, List.set_cons_zero, List.set_cons_succ, List.getElem_toArray, List.getElem_cons_zero, List.getElem_cons_succ]
            refine wpAnyH_ready (rs := [13]) (by kernel_rfl) (by simp) ?_
            refine AllReadyH.cons rfl (fun K hK => ?_) AllReadyH.nil
            refine step_append_fresh rfl (.tmp 44) (.tmp 49) 79 rfl (Lb + 1) 81 i0 _ 3 24 Try.underlying79 hi hz0 hz1 hz2 (by decide) (.slice vaB nlB vcB) nlB (flatL (RB q)) rfl HOB.out ⟨wb.heap.size, 0, none⟩ 1 (laneC (k, p, true)) rfl rfl (newsL_at _ (k, p, true) _ _ rfl) (oneL _) (by unfold maxLen; omega) (by omega) HSZB.out ?_
            intro gB cpB w4B hown hgrow hfr
            have x4 : PipS ab p q w4B := HDB.out.mod (((Mod.refl (fun k => (Value.slice vaB nlB vcB).ownBlock = some k) _).alloc _).grown hgrow (fun k hk => .inr hk)) HABB.out
            rw [HVBB.out] at hgrow hfr
            have hown2 := hown
            rw [← HNLB.out] at hown2
            obtain ⟨_, c4, f4⟩ := HYB.out.adj.push hq hown2 hgrow hfr
            skip
            have HZB := Lib.hid (HYB.out.push hq hown2 hgrow hfr)
            skip
            clear hown hown2 hgrow hfr
            refine hK.out _ _ ?_ (fun hHeld => ?_)
            · exact x4
            clear hK K
            try simp only [Act.put, List.setIfInBounds_toArray, List.set_cons_zero, List.set_cons_succ, List.getElem_toArray, List.getElem_cons_zero, List.getElem_cons_succ]
            refine wpAnyH_take (i := 14) (v := ?_) rfl (by kernel_rfl) (by kernel_rfl) (by kernel_rfl) (fun _ _ _ h => h) (Or.inl ⟨by rfl, ?_⟩) hHeld ?_
            rotate_left
            · intro W0 hW; obtain ⟨hW1, hW2, hW3⟩ := hW; go_simp; (try with_reducible rfl)
            try simp only [Act.put, List.setIfInBounds_toArray, List.set_cons_zero, List.set_cons_succ, List.getElem_toArray, List.getElem_cons_zero, List.getElem_cons_succ]
            refine wpAnyH_ready (rs := [15]) (by kernel_rfl) (by simp) ?_
            refine AllReadyH.cons rfl (fun K hK => ?_) AllReadyH.nil
            go_simp
            refine hK.out _ _ ?_ (fun hHeld => ?_)
            · exact x4.mod ((Mod.refl (fun b => b = Lb) _).setCell (p := ⟨Lb, q, none⟩) (.inr rfl) _) (fun h => by have h2 : ab = Lb := h; have := HLL.out; omega)
            clear hK K
            try simp only [Act.put, List.setIfInBounds_toArray, List.set_cons_zero, List.set_cons_succ, List.getElem_toArray, List.getElem_cons_zero, List.getElem_cons_succ]
            refine wpAnyH_done (by kernel_rfl) ?_ _
            rw [HNLB.out] at HZB
            clear c4 f4 x4
            clear hHeld
            go_wp2_with fail
            go_roundw
            case rel => exact ⟨k + 1, _, by go_num, by omega, Lib.hid (HZB.out.congr (R2 := fun i => lanesU l i (k + 1)) (fun i _ => by rw [HXT.out]; exact lanes_two HPQ.out HRB.out HRQ.out))⟩
            case measure => simp [intOf]; omega
          · go_simp
            refine hK.out _ _ ?_ (fun hHeld => ?_)
            · exact hHeld.mod ((Mod.refl (fun _ => False) _).alloc _) (fun h => h)
            clear hK K
            try simp only [Act.put, List.setIfInBounds_toArray, List.set_cons_zero, List.set_cons_succ, List.getElem_toArray, List.getElem_cons_zero, List.getElem_cons_succ]
            refine wpAnyH_ready (rs := [7]) (by kernel_rfl) (by simp) ?_
            refine AllReadyH.cons rfl (fun K hK => ?_) AllReadyH.nil
            go_simp
            refine hK.out _ _ ?_ (fun hHeld => ?_)
            · exact hHeld
            clear hK K
            try simp only [Act.put, List.setIfInBounds_toArray, List.set_cons_zero, List.set_cons_succ, List.getElem_toArray, List.getElem_cons_zero, List.getElem_cons_succ]
            refine wpAnyH_ready (rs := [13]) (by kernel_rfl) (by simp) ?_
            refine AllReadyH.cons rfl (fun K hK => ?_) AllReadyH.nil
            refine step_append_fresh rfl (.tmp 44) (.tmp 49) 79 rfl (Lb + 1) 81 i0 _ 3 24 Try.underlying79 hi hz0 hz1 hz2 (by decide) (.slice vaB nlB vcB) nlB (flatL (RB q)) rfl HOB.out ⟨wb.heap.size, 0, none⟩ 1 (laneC (k, p, true)) rfl rfl (newsL_at _ (k, p, true) _ _ rfl) (oneL _) (by unfold maxLen; omega) (by omega) HSZB.out ?_
            intro gB cpB w4B hown hgrow hfr
            have x4 : PipS ab p q w4B := HDB.out.mod (((Mod.refl (fun k => (Value.slice vaB nlB vcB).ownBlock = some k) _).alloc _).grown hgrow (fun k hk => .inr hk)) HABB.out
            rw [HVBB.out] at hgrow hfr
            have hown2 := hown
            rw [← HNLB.out] at hown2
            obtain ⟨_, c4, f4⟩ := HYB.out.adj.push hq hown2 hgrow hfr
            skip
            have HZB := Lib.hid (HYB.out.push hq hown2 hgrow hfr)
            skip
            clear hown hown2 hgrow hfr
            refine hK.out _ _ ?_ (fun hHeld => ?_)
            · exact x4
            clear hK K
            try simp only [Act.put, List.setIfInBounds_toArray, List.set_cons_zero, List.set_cons_succ, List.getElem_toArray, List.getElem_cons_zero, List.getElem_cons_succ]
            refine wpAnyH_take (i := 14) (v := ?_) rfl (by kernel_rfl) (by kernel_rfl) (by kernel_rfl) (fun _ _ _ h => h) (Or.inl ⟨by rfl, ?_⟩) hHeld ?_
            rotate_left
            · intro W0 hW; obtain ⟨hW1, hW2, hW3⟩ := hW; go_simp; (try with_reducible rfl)
            try simp only [Act.put, List.setIfInBounds_toArray, List.set_cons_zero, List.set_cons_succ, List.getElem_toArray, List.getElem_cons_zero, List.getElem_cons_succ]
            refine wpAnyH_ready (rs := [15]) (by kernel_rfl) (by simp) ?_
            refine AllReadyH.cons rfl (fun K hK => ?_) AllReadyH.nil
            go_simp
            refine hK.out _ _ ?_ (fun hHeld => ?_)
            · exact x4.mod ((Mod.refl (fun b => b = Lb) _).setCell (p := ⟨Lb, q, none⟩) (.inr rfl) _) (fun h => by have h2 : ab = Lb := h; have := HLL.out; omega)
            clear hK K
            try simp only [Act.put, List.setIfInBounds_toArray, List.set_cons_zero, List.set_cons_succ, List.getElem_toArray, List.getElem_cons_zero, List.getElem_cons_succ]
            refine wpAnyH_done (by kernel_rfl) ?_ _
            rw [HNLB.out] at HZB
            clear c4 f4 x4
            clear hHeld
            go_wp2_with fail
            go_roundw
            case rel => exact ⟨k + 1, _, by go_num, by omega, Lib.hid (HZB.out.congr (R2 := fun i => lanesU l i (k + 1)) (fun i _ => by rw [HXT.out]; exact lanes_two HPQ.out HRB.out HRQ.out))⟩
            case measure => simp [intOf]; omega
    · have hk2 : k = l.length := by have := HLn.out; omega
      subst hk2
      go_wp2_with fail
      go_ret
      exact ⟨_, V, rfl, HX.out.adj, HX.out.box.below⟩
end Go.Proofs.Ytbenmebmfihleaa
