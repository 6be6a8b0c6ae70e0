/- Joined: KMade, KLen. -/
import Derived.Test.YtbenmebmfihleaaMSend
import Derived.Test.YtbenmebmfihleaaMHigh
section
/- Package least's work while it is made; its lanes. -/
namespace Go.Proofs.Ytbenmebmfihleaa
open Go.RowKit

variable {w w2 wr w4 : World} {a : Option Addr} {len cap lb p N s t k q i n f g' cap' D0 : Nat} {l : List Pi} {o : Nat → Option Nat} {x : Value} {y : Pi} {V : Nat → Value} {R R2 : Nat → List La} {cf ch : Value} {co : Int} {ly : La}
/-! ### The lanes -/
/-- What pipe k gives to the lanes of node i. -/
def laneK (k : Nat) (x : Pi) (i : Nat) : List La := (if x.1 = (i : Int) then [(k, x.2.1.toNat, false)] else []) ++ (if x.2.1 = (i : Int) then [(k, x.1.toNat, true)] else [])
/-- The lanes of node i in the first n pipes. -/
def lanesK (l : List Pi) (i : Nat) : Nat → List La
  | 0 => []
  | k + 1 => lanesK l i k ++ (match l[k]? with | some x => laneK k x i | none => [])
theorem lanesK_step (hx : l[k]? = some y) (i : Nat) : lanesK l i (k + 1) = lanesK l i k ++ laneK k y i := by rw [lanesK, hx]
theorem mem_lanesK : ∀ n, ly ∈ lanesK l i n ↔ ∃ k x, k < n ∧ l[k]? = some x ∧ ly ∈ laneK k x i
  | 0 => by
    constructor
    · intro h; cases h
    · rintro ⟨k, x, h, _⟩; omega
  | n + 1 => by
    rw [lanesK, List.mem_append, mem_lanesK n]
    constructor
    · rintro (⟨k, x, h1, h2, h3⟩ | h)
      · exact ⟨k, x, by omega, h2, h3⟩
      · cases hx : l[n]? with
        | none => rw [hx] at h; cases h
        | some x => rw [hx] at h; exact ⟨n, x, by omega, hx, h⟩
    · rintro ⟨k, x, h1, h2, h3⟩
      by_cases e : k = n
      · subst e
        right
        rw [h2]
        exact h3
      · exact .inl ⟨k, x, by omega, h2, h3⟩
theorem lanesK_good (hok : ∀ x ∈ l, okP (N : Int) x = true) : LanesK l N (fun i => lanesK l i l.length) := by
  refine ⟨fun u hu a ha => ?_, fun k x f t hx hf ht => ?_⟩
  · obtain ⟨k, x, hk, hx, hm⟩ := (mem_lanesK _).1 ha
    have hxo := okP_true.1 (hok x (List.mem_of_getElem? hx))
    unfold laneK at hm
    rw [List.mem_append] at hm
    rcases hm with hm | hm
    · split at hm
      · simp only [List.mem_singleton] at hm
        subst hm
        exact ⟨x, hx, by simp only; omega, by simp only [Bool.false_eq_true, if_false]; omega⟩
      · cases hm
    · split at hm
      · simp only [List.mem_singleton] at hm
        subst hm
        exact ⟨x, hx, by simp only; omega, by simp only [if_true]; omega⟩
      · cases hm
  · have hk := (List.getElem?_eq_some_iff.1 hx).1
    refine ⟨(mem_lanesK _).2 ⟨k, x, hk, hx, ?_⟩, (mem_lanesK _).2 ⟨k, x, hk, hx, ?_⟩⟩
    · have e : x.2.1.toNat = t := by omega
      simp [laneK, hf, e]
    · have e : x.1.toNat = f := by omega
      simp [laneK, ht, e]
theorem lanesK_le (l : List Pi) (i : Nat) : ∀ n, (lanesK l i n).length ≤ 2 * n
  | 0 => Nat.le_refl _
  | n + 1 => by
    rw [lanesK, List.length_append]
    have := lanesK_le l i n
    cases l[n]? with
    | none => simp only [List.length_nil]; omega
    | some x =>
      simp only [laneK, List.length_append]
      split <;> split <;> simp <;> omega
theorem lanesK_sum (hok : ∀ x ∈ l, okP (N : Int) x = true) : ∀ n, sumN N (fun i => ((lanesK l i n).length : Int)) ≤ 2 * (n : Int)
  | 0 => by rw [sumN_zero (fun i _ => by simp [lanesK])]; omega
  | n + 1 => by
    have ih := lanesK_sum hok n
    cases hx : l[n]? with
    | none =>
      have e : sumN N (fun i => ((lanesK l i (n + 1)).length : Int)) = sumN N (fun i => ((lanesK l i n).length : Int)) := sumN_congr (fun i _ => by rw [lanesK, hx, List.append_nil])
      rw [e]; omega
    | some x =>
      have hxo := okP_true.1 (hok x (List.mem_of_getElem? hx))
      obtain ⟨f, hf⟩ : ∃ f : Nat, x.1 = (f : Int) := ⟨x.1.toNat, by omega⟩
      obtain ⟨t, ht⟩ : ∃ t : Nat, x.2.1 = (t : Int) := ⟨x.2.1.toNat, by omega⟩
      have e : sumN N (fun i => ((lanesK l i (n + 1)).length : Int)) = sumN N (fun i => ((lanesK l i n).length : Int) + ((if i = f then (1 : Int) else 0) + (if i = t then (1 : Int) else 0))) := sumN_congr (fun i _ => by
        rw [lanesK_step hx, List.length_append]
        have a1 : (x.1 = (i : Int)) ↔ i = f := by rw [hf]; omega
        have a2 : (x.2.1 = (i : Int)) ↔ i = t := by rw [ht]; omega
        simp only [laneK, a1, a2, List.length_append]
        split <;> split <;> simp <;> omega)
      rw [e, sumN_add, sumN_add, sumN_one (s := f) (f := fun i => if i = f then (1 : Int) else 0) (by omega) (fun i _ h => by simp [h]), sumN_one (s := t) (f := fun i => if i = t then (1 : Int) else 0) (by omega) (fun i _ h => by simp [h])]
      simp only [if_true]
      omega
/-- The lane on, then the lane back. -/
theorem lanesK_two {p q : Nat} {rm cs : Int} (hx : l[k]? = some ((p : Int), (q : Int), rm, cs)) (i : Nat) :
    (if i = q then (fun j => if j = p then lanesK l p k ++ [(k, q, false)] else lanesK l j k) q ++ [(k, p, true)] else (fun j => if j = p then lanesK l p k ++ [(k, q, false)] else lanesK l j k) i) = lanesK l i (k + 1) := by
  rw [lanesK_step hx]
  unfold laneK
  simp only [Int.toNat_natCast]
  have a1 : ((p : Int) = (i : Int)) ↔ i = p := by omega
  have a2 : ((q : Int) = (i : Int)) ↔ i = q := by omega
  simp only [a1, a2]
  by_cases e1 : i = q
  · subst e1
    by_cases e2 : i = p
    · subst e2; simp
    · simp [e2]
  · by_cases e2 : i = p
    · subst e2; simp [e1]
    · simp [e1, e2]
/-- Block lb is a row of N slices of lanes, each of them in a row of its own, behind D0. -/
structure AdjK (D0 : Nat) (w : World) (lb N : Nat) (V : Nat → Value) (R : Nat → List La) : Prop where
  lt : lb < D0
  out : w.rowIs lb 88 N V
  row : ∀ i, i < N → w.ownsRow D0 90 3 (V i) (R i).length (flatL (R i))
  apart : ∀ i j, i < N → j < N → i ≠ j → ∀ b, (V i).ownBlock = some b → (V j).ownBlock ≠ some b
theorem AdjK.later (h : AdjK D0 w lb N V R) (hb : Below w.heap.size w w2) : AdjK D0 w2 lb N V R :=
  ⟨h.lt, rowIs_below h.out hb, fun i hi => owns_below (h.row i hi) hb, h.apart⟩
theorem AdjK.congr (h : AdjK D0 w lb N V R) (e : ∀ i, i < N → R i = R2 i) : AdjK D0 w lb N V R2 :=
  ⟨h.lt, h.out, fun i hi => by rw [← e i hi]; exact h.row i hi, h.apart⟩
theorem AdjK.kept {S : Nat → Prop} (h : AdjK D0 w lb N V R) (hm : Mod S w w2) (hS : ∀ k, S k → k < D0 ∧ k ≠ lb) : AdjK D0 w2 lb N V R :=
  ⟨h.lt, h.out.of_block (hm.block lb h.out.lt (fun hs => (hS lb hs).2 rfl)), fun i hi => owns_kept (h.row i hi) hm (fun k hk hs => by have h1 := (World.ownsRow.lt (h.row i hi) k hk).1; have := (hS k hs).1; omega), h.apart⟩
theorem AdjK.push (h : AdjK D0 w lb N V R) (hf : f < N) (hown : w4.ownsRow D0 90 3 (.slice (some ⟨g', 0, none⟩) ((R f).length + 1) cap') ((R f).length + 1) (flatL (R f) ++ laneC ly))
    (hgrow : w.grownBy w4 (V f).ownBlock) (hfr : (V f).ownBlock = some g' ∨ g' = w.heap.size) :
    AdjK D0 (w4.setCell ⟨lb, f, none⟩ (.slice (some ⟨g', 0, none⟩) ((R f).length + 1) cap')) lb N (fun j => if j = f then .slice (some ⟨g', 0, none⟩) ((R f).length + 1) cap' else V j) (fun j => if j = f then R f ++ [ly] else R j) ∧
    w4.cell? ⟨lb, f, none⟩ = some (V f) ∧ w4.frozen? ⟨lb, f, none⟩ = false := by
  have hl := h.lt
  have hlt : ∀ i, i < N → ∀ k, (V i).ownBlock = some k → D0 ≤ k ∧ k < w.heap.size := fun i hi k hk => World.ownsRow.lt (h.row i hi) k hk
  have ho4 : w4.rowIs lb 88 N V := h.out.of_block (hgrow.block lb h.out.lt (fun e => by have := (hlt f hf lb e.symm).1; omega))
  refine ⟨⟨hl, ho4.set f _, fun i hi => ?_, fun i j hi hj hij b hb => ?_⟩, ho4.cell hf, ho4.frozen f⟩
  · by_cases e : i = f
    · subst e
      simp only [if_true, List.length_append, List.length_singleton, flatL_snoc]
      exact ownsRow_setCell_other hown (fun e => by have h9 : D0 ≤ lb := (World.ownsRow.lt hown _ e).1; omega) _
    · simp only [e, if_false]
      refine ownsRow_setCell_other ((h.row i hi).kept hgrow ?_) (fun e2 => by have h9 : D0 ≤ lb := (hlt i hi _ e2).1; omega) _
      cases hv : (V i).ownBlock with
      | none => exact .inl rfl
      | some b => exact .inr (fun e2 => h.apart i f hi hf e b hv (by rw [← e2]))
  · have new : ∀ b, some g' = some b → ∀ i, i < N → i ≠ f → (V i).ownBlock ≠ some b := fun b hb i hi hif he => by
      cases hb
      rcases hfr with hfr | hfr
      · exact h.apart i f hi hf hif g' he hfr
      · have := (hlt i hi _ he).2
        omega
    by_cases e1 : i = f
    · subst e1
      simp only [if_true] at hb
      rw [if_neg (fun e => hij e.symm)]
      exact new b hb j hj (fun e => hij e.symm)
    · rw [if_neg e1] at hb
      by_cases e2 : j = f
      · rw [if_pos e2]
        intro he
        exact new b he i hi e1 hb
      · rw [if_neg e2]
        exact h.apart i j hi hj hij b hb
theorem AdjK.lanes (h : AdjK D0 w lb N V R) : LanesL w.heap.size w lb N V R := by
  refine ⟨h.out.lt, h.out, fun i hi => ?_⟩
  obtain ⟨a, c, e⟩ := owns_shape (h.row i hi)
  refine ⟨a, c, e, rfl, ?_⟩
  by_cases h0 : (R i).length = 0
  · exact .inl h0
  · obtain ⟨D, cp, hv, _, hD, _⟩ := owns_some (h.row i hi) (by omega)
    have ho := h.row i hi
    rw [e] at hv
    injection hv with e1
    subst e1
    refine .inr ⟨D, 0, rfl, hD, fun j x hx => ?_⟩
    rw [Nat.zero_add]
    obtain ⟨c0, c1, c2⟩ := flatL_get _ j x hx
    have hj : j < (R i).length := (List.getElem?_eq_some_iff.1 hx).1
    rw [e] at ho
    exact ⟨(World.ownsRow.cellAt ho (j * 3) (by omega)).trans c0, (World.ownsRow.cellAt ho (j * 3 + 1) (by omega)).trans c1, (World.ownsRow.cellAt ho (j * 3 + 2) (by omega)).trans c2⟩
/-! ### The rows, in whatever order they are made -/
/-- Row i: its type, its length, what it holds first. (0 lanes, 1 stays, 2 steps, 3 next, 4 flow, 5 high.) -/
abbrev kT (i : Nat) : TypeId := match i with | 0 => 88 | 1 => 2 | 2 => 3 | 3 => 3 | 4 => 2 | _ => 2
abbrev kN (len N : Nat) (i : Nat) : Nat := match i with | 0 => N | 1 => N | 2 => N | 3 => N | 4 => len | _ => N
abbrev kV (i : Nat) : Value := match i with | 0 => .slice none 0 0 | 1 => .int .i64 0 | 2 => .int .i64 0 | 3 => .int .i64 0 | 4 => .int .i64 0 | _ => .int .i64 0
structure MW (w wr : World) (N len cap : Nat) (a : Option Addr) (o : Nat → Option Nat) : Prop where
  box : NBox w wr w.heap.size (N : Int) a len cap
  rows : ∀ i b, o i = some b → wr.rowIs b (kT i) (kN len N i) (fun _ => kV i) ∧ w.heap.size < b
  ne : ∀ i j b, i ≠ j → o i = some b → o j ≠ some b
theorem MW.begin_ (h : NBox w wr w.heap.size (N : Int) a len cap) : MW w wr N len cap a (fun _ => none) := ⟨h, fun _ _ h => (nomatch h), fun _ _ _ _ h => (nomatch h)⟩
theorem MW.drew (h : MW w wr N len cap a o) : MW w wr.drew N len cap a o := ⟨h.box.later (Below.refl _ _).drew, h.rows, h.ne⟩
theorem MW.two (h : MW w wr N len cap a o) : wr.cell? ⟨w.heap.size, 0, none⟩ = some (.int .i64 (N : Int)) ∧ wr.cell? ⟨w.heap.size, 1, none⟩ = some (.slice a len cap) := ⟨h.box.c0, h.box.c1⟩
theorem MW.mk_ (h : MW w wr N len cap a o) (i : Nat) : MW w (wr.alloc (.cells (madeCells #[kV i] (kN len N i)) (kT i))) N len cap a (putO o i wr.heap.size) := by
  have hlt := h.box.lt
  refine ⟨h.box.alloc _, fun j b hj => ?_, fun j k b hjk hj hk => ?_⟩
  · unfold putO at hj
    by_cases e : j = i
    · subst e
      rw [if_pos rfl] at hj
      injection hj with hj
      subst hj
      exact ⟨World.rowIs_made _ _ _ _, hlt⟩
    · rw [if_neg e] at hj
      obtain ⟨h1, h2⟩ := h.rows j b hj
      exact ⟨h1.alloc _, h2⟩
  · unfold putO at hj hk
    by_cases e : j = i
    · rw [if_pos e] at hj
      rw [if_neg (fun e2 => hjk (e.trans e2.symm))] at hk
      injection hj with hj
      have := (h.rows k b hk).1.lt
      omega
    · rw [if_neg e] at hj
      by_cases e2 : k = i
      · rw [if_pos e2] at hk
        injection hk with hk
        have := (h.rows j b hj).1.lt
        omega
      · rw [if_neg e2] at hk
        exact h.ne j k b hjk hj hk
theorem MW.congr {o2 : Nat → Option Nat} (h : MW w wr N len cap a o) (e : ∀ j, o j = o2 j) : MW w wr N len cap a o2 := by
  have h1 : o = o2 := funext e
  subst h1
  exact h
/-- The work's block, while its last rows are made. -/
def wkC (N len cap : Nat) (a : Option Addr) (lb sb tb nb : Nat) (cf ch : Value) (co : Int) : Array Value := #[.int .i64 (N : Int), .slice a len cap, cf, .int .i64 0, ch, .int .i64 co, .slice (some ⟨lb, 0, none⟩) N N, .slice (some ⟨sb, 0, none⟩) N N, .slice (some ⟨tb, 0, none⟩) N N, .slice (some ⟨nb, 0, none⟩) N N]
structure BL (w wr : World) (p N len cap : Nat) (a : Option Addr) (lb sb tb nb : Nat) (o : Nat → Option Nat) (cf ch : Value) : Prop where
  made : MW w wr N len cap a o
  gp : w.heap.size < p
  blk : wr.heap[p]? = some (.cells (wkC N len cap a lb sb tb nb cf ch 0) 70 (0, 0))
  np : ∀ i b, o i = some b → b ≠ p
variable {sb tb nb : Nat}
theorem MW.boxed (h : MW w wr N len cap a o) : BL w (wr.alloc (.cells (wkC N len cap a lb sb tb nb (.slice none 0 0) (.slice none 0 0) 0) 70)) wr.heap.size N len cap a lb sb tb nb o (.slice none 0 0) (.slice none 0 0) :=
  ⟨⟨h.box.alloc _, fun i b hb => ⟨(h.rows i b hb).1.alloc _, (h.rows i b hb).2⟩, h.ne⟩, h.box.lt, heap_alloc_new _ _, fun i b hb => by have := (h.rows i b hb).1.lt; omega⟩
theorem BL.drew (h : BL w wr p N len cap a lb sb tb nb o cf ch) : BL w wr.drew p N len cap a lb sb tb nb o cf ch := ⟨h.made.drew, h.gp, h.blk, h.np⟩
theorem BL.two (h : BL w wr p N len cap a lb sb tb nb o cf ch) : wr.cell? ⟨w.heap.size, 0, none⟩ = some (.int .i64 (N : Int)) ∧ wr.cell? ⟨w.heap.size, 1, none⟩ = some (.slice a len cap) := h.made.two
theorem BL.lt (h : BL w wr p N len cap a lb sb tb nb o cf ch) : p < wr.heap.size := (Array.getElem?_eq_some_iff.1 h.blk).1
theorem BL.mk_ (h : BL w wr p N len cap a lb sb tb nb o cf ch) (i : Nat) : BL w (wr.alloc (.cells (madeCells #[kV i] (kN len N i)) (kT i))) p N len cap a lb sb tb nb (putO o i wr.heap.size) cf ch :=
  ⟨h.made.mk_ i, h.gp, (Below.heap_alloc _ _ _ h.lt).trans h.blk, fun j b hj => by
    unfold putO at hj
    by_cases e : j = i
    · rw [if_pos e] at hj
      injection hj with hj
      have := h.lt
      omega
    · rw [if_neg e] at hj
      exact h.np j b hj⟩
theorem BL.cells (h : BL w wr p N len cap a lb sb tb nb o cf ch) : wr.cell? ⟨p, 2, none⟩ = some cf ∧ wr.cell? ⟨p, 4, none⟩ = some ch ∧ wr.frozen? ⟨p, 2, none⟩ = false ∧ wr.frozen? ⟨p, 4, none⟩ = false := by
  have h1 := h.blk
  unfold wkC at h1
  simp [World.cell?, World.frozen?, h1]
theorem BL.st_ (h : BL w wr p N len cap a lb sb tb nb o cf ch) (f : Nat) (x cf2 ch2 : Value) (hf : (wkC N len cap a lb sb tb nb cf ch 0).setIfInBounds f x = wkC N len cap a lb sb tb nb cf2 ch2 0) :
    BL w (wr.setCell ⟨p, f, none⟩ x) p N len cap a lb sb tb nb o cf2 ch2 := by
  have hlt := h.lt
  have hgp := h.gp
  refine ⟨⟨⟨h.made.box.below.setCell (p := ⟨p, f, none⟩) (by show w.heap.size ≤ p; omega) _, h.made.box.ge, (heap_setCell_other _ _ _ _ (by show w.heap.size ≠ p; omega)).trans h.made.box.blk⟩, fun j b hj => ?_, h.made.ne⟩, hgp, ?_, h.np⟩
  · obtain ⟨h1, h2⟩ := h.made.rows j b hj
    exact ⟨h1.setOther (h.np j b hj) _, h2⟩
  · rw [heap_setCell_same _ _ _ _ _ _ h.blk, hf]
theorem BL.st4 (h : BL w wr p N len cap a lb sb tb nb o cf ch) (x : Value) : BL w (wr.setCell ⟨p, 2, none⟩ x) p N len cap a lb sb tb nb o x ch := h.st_ 2 x x ch rfl
theorem BL.st5 (h : BL w wr p N len cap a lb sb tb nb o cf ch) (x : Value) : BL w (wr.setCell ⟨p, 4, none⟩ x) p N len cap a lb sb tb nb o cf x := h.st_ 4 x cf x rfl
theorem BL.congr {o2 : Nat → Option Nat} (h : BL w wr p N len cap a lb sb tb nb o cf ch) (e : ∀ j, o j = o2 j) : BL w wr p N len cap a lb sb tb nb o2 cf ch := by
  have h1 : o = o2 := funext e
  subst h1
  exact h
/-! ### While lanes are laid -/
variable {fb hb B : Nat}
/-- The blocks lie apart. -/
structure DisK (B p fb sb hb tb nb lb D0 : Nat) : Prop where
  gp : B < p
  gf : B < fb
  gs : B < sb
  gh : B < hb
  gt : B < tb
  gn : B < nb
  gl : B < lb
  dp : p < D0
  df : fb < D0
  ds : sb < D0
  dh : hb < D0
  dt : tb < D0
  dn : nb < D0
  dl : lb < D0
  pf : p ≠ fb
  ps : p ≠ sb
  ph : p ≠ hb
  pt : p ≠ tb
  pn : p ≠ nb
  fs : fb ≠ sb
  fh : fb ≠ hb
  ft : fb ≠ tb
  fn : fb ≠ nb
  sh : sb ≠ hb
  st : sb ≠ tb
  sn : sb ≠ nb
  ht : hb ≠ tb
  hn : hb ≠ nb
  tn : tb ≠ nb
  lp : lb ≠ p
  lf : lb ≠ fb
  ls : lb ≠ sb
  lh : lb ≠ hb
  lt : lb ≠ tb
  ln : lb ≠ nb
structure Bg (w wr : World) (p fb sb hb tb nb lb D0 N len cap : Nat) (a : Option Addr) (V : Nat → Value) (R : Nat → List La) (co : Int) : Prop where
  below : Below w.heap.size w wr
  blk : wr.heap[p]? = some (.cells (wkC N len cap a lb sb tb nb (.slice (some ⟨fb, 0, none⟩) len len) (.slice (some ⟨hb, 0, none⟩) N N) co) 70 (0, 0))
  flow : wr.rowIs fb 2 len (fun _ => .int .i64 0)
  stays : wr.rowIs sb 2 N (fun _ => .int .i64 0)
  high : wr.rowIs hb 2 N (fun _ => .int .i64 0)
  steps : wr.rowIs tb 3 N (fun _ => .int .i64 0)
  next : wr.rowIs nb 3 N (fun _ => .int .i64 0)
  adj : AdjK D0 wr lb N V R
  dis : DisK w.heap.size p fb sb hb tb nb lb D0
  size : D0 ≤ wr.heap.size
theorem Bg.later (h : Bg w wr p fb sb hb tb nb lb D0 N len cap a V R co) (hb2 : Below wr.heap.size wr w2) : Bg w w2 p fb sb hb tb nb lb D0 N len cap a V R co := by
  have d := h.dis
  have z := h.size
  exact ⟨h.below.trans (hb2.mono h.below.size), (hb2.block p (by have := d.dp; omega)).trans h.blk, rowIs_below h.flow hb2, rowIs_below h.stays hb2, rowIs_below h.high hb2, rowIs_below h.steps hb2, rowIs_below h.next hb2, h.adj.later hb2, d, Nat.le_trans z hb2.size⟩
theorem Bg.cells (h : Bg w wr p fb sb hb tb nb lb D0 N len cap a V R co) : wr.cell? ⟨p, 1, none⟩ = some (.slice a len cap) ∧ wr.cell? ⟨p, 5, none⟩ = some (.int .i64 co) ∧ wr.cell? ⟨p, 6, none⟩ = some (.slice (some ⟨lb, 0, none⟩) N N) ∧ wr.frozen? ⟨p, 5, none⟩ = false := by
  have h1 := h.blk
  unfold wkC at h1
  simp [World.cell?, World.frozen?, h1]
theorem Bg.setCo (h : Bg w wr p fb sb hb tb nb lb D0 N len cap a V R co) (z : Int) : Bg w (wr.setCell ⟨p, 5, none⟩ (.int .i64 z)) p fb sb hb tb nb lb D0 N len cap a V R z := by
  have d := h.dis
  have hm : Mod (fun k => k = p) wr (wr.setCell ⟨p, 5, none⟩ (.int .i64 z)) := (Mod.refl (fun k => k = p) wr).setCell (p := ⟨p, 5, none⟩) (.inr rfl) _
  refine ⟨h.below.setCell (p := ⟨p, 5, none⟩) (by show w.heap.size ≤ p; have := d.gp; omega) _, ?_, h.flow.setOther d.pf.symm _, h.stays.setOther d.ps.symm _, h.high.setOther d.ph.symm _, h.steps.setOther d.pt.symm _, h.next.setOther d.pn.symm _, h.adj.kept hm (fun k hk => by subst hk; exact ⟨d.dp, d.lp.symm⟩), d, by simpa [World.setCell] using h.size⟩
  rw [heap_setCell_same _ _ _ _ _ _ h.blk]
  rfl
theorem Bg.push (h : Bg w wr p fb sb hb tb nb lb D0 N len cap a V R co) (hf : f < N) (hown : w4.ownsRow D0 90 3 (.slice (some ⟨g', 0, none⟩) ((R f).length + 1) cap') ((R f).length + 1) (flatL (R f) ++ laneC ly))
    (hgrow : wr.grownBy w4 (V f).ownBlock) (hfr : (V f).ownBlock = some g' ∨ g' = wr.heap.size) :
    Bg w (w4.setCell ⟨lb, f, none⟩ (.slice (some ⟨g', 0, none⟩) ((R f).length + 1) cap')) p fb sb hb tb nb lb D0 N len cap a (fun j => if j = f then .slice (some ⟨g', 0, none⟩) ((R f).length + 1) cap' else V j) (fun j => if j = f then R f ++ [ly] else R j) co := by
  have d := h.dis
  have z := h.size
  have hlt : ∀ k, (V f).ownBlock = some k → D0 ≤ k ∧ k < wr.heap.size := fun k hk => World.ownsRow.lt (h.adj.row f hf) k hk
  have hm : Mod (fun k => (V f).ownBlock = some k ∨ k = lb) wr (w4.setCell ⟨lb, f, none⟩ (.slice (some ⟨g', 0, none⟩) ((R f).length + 1) cap')) :=
    ((Mod.refl _ wr).grown hgrow (fun k hk => .inr (.inl hk))).setCell (p := ⟨lb, f, none⟩) (.inr (.inr rfl)) _
  have far : ∀ b, b < D0 → b ≠ lb → (w4.setCell ⟨lb, f, none⟩ (.slice (some ⟨g', 0, none⟩) ((R f).length + 1) cap')).heap[b]? = wr.heap[b]? := fun b hb2 hne => hm.block b (by omega) (fun hs => by
    rcases hs with hs | hs
    · have := (hlt b hs).1; omega
    · exact hne hs)
  exact ⟨h.below.trans (hm.below h.below.size (fun k hk => by
    rcases hk with hk | hk
    · have := (hlt k hk).1; have := d.dp; have := d.gp; omega
    · have := d.gl; omega)), (far _ d.dp d.lp.symm).trans h.blk, h.flow.of_block (far _ d.df d.lf.symm), h.stays.of_block (far _ d.ds d.ls.symm), h.high.of_block (far _ d.dh d.lh.symm), h.steps.of_block (far _ d.dt d.lt.symm), h.next.of_block (far _ d.dn d.ln.symm), (h.adj.push hf hown hgrow hfr).1, d, Nat.le_trans z hm.size⟩
theorem Bg.congr (h : Bg w wr p fb sb hb tb nb lb D0 N len cap a V R co) (e : ∀ i, i < N → R i = R2 i) : Bg w wr p fb sb hb tb nb lb D0 N len cap a V R2 co :=
  ⟨h.below, h.blk, h.flow, h.stays, h.high, h.steps, h.next, h.adj.congr e, h.dis, h.size⟩
/-- The six rows' blocks. -/
def six (lb sb tb nb fb hb : Nat) : Nat → Option Nat := fun j => if j = 0 then some lb else if j = 1 then some sb else if j = 2 then some tb else if j = 3 then some nb else if j = 4 then some fb else if j = 5 then some hb else none
theorem Bg.begin_ (h : BL w wr p N len cap a lb sb tb nb (six lb sb tb nb fb hb) (.slice (some ⟨fb, 0, none⟩) len len) (.slice (some ⟨hb, 0, none⟩) N N)) (l : List Pi) :
    Bg w wr p fb sb hb tb nb lb wr.heap.size N len cap a (fun _ => .slice none 0 0) (fun i => lanesK l i 0) 0 := by
  obtain ⟨r0, g0⟩ := h.made.rows 0 lb rfl
  obtain ⟨r1, g1⟩ := h.made.rows 1 sb rfl
  obtain ⟨r2, g2⟩ := h.made.rows 2 tb rfl
  obtain ⟨r3, g3⟩ := h.made.rows 3 nb rfl
  obtain ⟨r4, g4⟩ := h.made.rows 4 fb rfl
  obtain ⟨r5, g5⟩ := h.made.rows 5 hb rfl
  have n0 := h.np 0 lb rfl
  have n1 := h.np 1 sb rfl
  have n2 := h.np 2 tb rfl
  have n3 := h.np 3 nb rfl
  have n4 := h.np 4 fb rfl
  have n5 := h.np 5 hb rfl
  have ne : ∀ i j b c, i ≠ j → six lb sb tb nb fb hb i = some b → six lb sb tb nb fb hb j = some c → b ≠ c := fun i j b c hij hi hj e => by
    subst e
    exact h.made.ne i j b hij hi hj
  refine ⟨h.made.box.below, h.blk, r4, r1, r5, r2, r3, ⟨r0.lt, r0, fun i _ => World.ownsRow_nil _ _ _ 3, fun i j _ _ _ b hb => by cases hb⟩, ?_, Nat.le_refl _⟩
  exact ⟨h.gp, g4, g1, g5, g2, g3, g0, h.lt, r4.lt, r1.lt, r5.lt, r2.lt, r3.lt, r0.lt, n4.symm, n1.symm, n5.symm, n2.symm, n3.symm, ne 4 1 _ _ (by decide) rfl rfl, ne 4 5 _ _ (by decide) rfl rfl, ne 4 2 _ _ (by decide) rfl rfl, ne 4 3 _ _ (by decide) rfl rfl, ne 1 5 _ _ (by decide) rfl rfl, ne 1 2 _ _ (by decide) rfl rfl, ne 1 3 _ _ (by decide) rfl rfl, ne 5 2 _ _ (by decide) rfl rfl, ne 5 3 _ _ (by decide) rfl rfl, ne 2 3 _ _ (by decide) rfl rfl,
    n0, ne 0 4 _ _ (by decide) rfl rfl, ne 0 1 _ _ (by decide) rfl rfl, ne 0 5 _ _ (by decide) rfl rfl, ne 0 2 _ _ (by decide) rfl rfl, ne 0 3 _ _ (by decide) rfl rfl⟩
/-- The work as it begins. -/
theorem Bg.done (h : Bg w wr p fb sb hb tb nb lb D0 N len cap a V R co) (hl : IsPipes w.heap.size w a len l) :
    Kw ⟨p, lb, fb, sb, hb, tb, nb, wr.heap.size, N, len, cap, a, l, V, R⟩ (fun _ => 0) (fun _ => 0) (fun _ => 0) (fun _ => 0) (fun _ => 0) co 0 wr := by
  have d := h.dis
  have z := h.size
  have hmine : ∀ b, (b = p ∨ b = fb ∨ b = sb ∨ b = hb ∨ b = tb ∨ b = nb) → w.heap.size < b ∧ b < D0 := fun b hb2 => by
    have := d.gp; have := d.gf; have := d.gs; have := d.gh; have := d.gt; have := d.gn; have := d.dp; have := d.df; have := d.ds; have := d.dh; have := d.dt; have := d.dn
    omega
  refine ⟨(hl.later h.below).mono h.below.size, h.adj.lanes, h.blk, h.flow, h.stays, h.high, h.steps, h.next, ⟨fun h0 b off e hm => ?_, fun hm => ?_, fun i hi b off n c e hm => ?_, ?_, ?_, ?_, ?_, ?_, ?_, d.pf, d.ps, d.ph, d.pt, d.pn, d.fs, d.fh, d.ft, d.fn, d.sh, d.st, d.sn, d.ht, d.hn, d.tn⟩, Nat.le_refl _⟩
  · rcases hl.2 with h1 | ⟨b2, off2, e2, h1, _⟩
    · exact h0 h1
    · have e3 : a = some ⟨b, off, none⟩ := e
      rw [e2] at e3
      injection e3 with e3
      injection e3 with e3
      have := (hmine b hm).1
      omega
  · rcases hm with hm | hm | hm | hm | hm | hm
    · exact d.lp hm
    · exact d.lf hm
    · exact d.ls hm
    · exact d.lh hm
    · exact d.lt hm
    · exact d.ln hm
  · have e3 : V i = .slice (some ⟨b, off, none⟩) n c := e
    have h1 := (World.ownsRow.lt (h.adj.row i hi) b (by rw [e3]; rfl)).1
    have := (hmine b hm).2
    omega
  · show p < wr.heap.size; have := d.dp; omega
  · show fb < wr.heap.size; have := d.df; omega
  · show sb < wr.heap.size; have := d.ds; omega
  · show hb < wr.heap.size; have := d.dh; omega
  · show tb < wr.heap.size; have := d.dt; omega
  · show nb < wr.heap.size; have := d.dn; omega
end Go.Proofs.Ytbenmebmfihleaa
end
section
/- math/bits.Len64, of what one may cost. -/
namespace Go.Proofs.Ytbenmebmfihleaa
open Go.RowKit

def LenP (x : Nat) (w : World) (e : Ending) (w' : World) : Prop := ∃ n : Nat, e = .returned (.int .i64 (n : Int)) ∧ n ≤ 33 ∧ x < 2 ^ n ∧ w = w'
theorem len_tab (B : ByteArray) (y : Nat) (h : y < B.size) (hB : (List.range B.size).all (fun k => decide ((B.data.getD k 0).toNat ≤ 8) && decide (k < 2 ^ (B.data.getD k 0).toNat)) = true) : B[y].toNat ≤ 8 ∧ y < 2 ^ B[y].toNat := by
  have h1 := List.all_eq_true.1 hB y (List.mem_range.2 h)
  have e : B.data.getD y 0 = B[y] := by
    have h2 : y < B.data.size := h
    unfold Array.getD
    rw [dif_pos h2]
    rfl
  rw [e] at h1
  simpa using h1
theorem lenP_of (B : ByteArray) (y k x : Nat) (K : Int) (hK : K = (k : Int)) (hk : k ≤ 25) (h : y < B.size) (hx : x < 2 ^ k * (y + 1)) (w : World) (hB : (List.range B.size).all (fun k => decide ((B.data.getD k 0).toNat ≤ 8) && decide (k < 2 ^ (B.data.getD k 0).toNat)) = true) :
    LenP x w (.returned (.int .i64 (wrap64 (K + wrap64 (B[y].toNat : Int))))) w := by
  obtain ⟨h1, h2⟩ := len_tab B y h hB
  have e1 : wrap64 (B[y].toNat : Int) = (B[y].toNat : Int) := by unfold wrap64; omega
  have e2 : wrap64 (K + (B[y].toNat : Int)) = ((k + B[y].toNat : Nat) : Int) := by subst hK; unfold wrap64; omega
  refine ⟨k + B[y].toNat, by rw [e1, e2], by omega, ?_, rfl⟩
  rw [Nat.pow_add]
  exact Nat.lt_of_lt_of_le hx (Nat.mul_le_mul_left _ h2)
theorem lenP_zero (B : ByteArray) (x : Nat) (h : x < B.size) (w : World) (hB : (List.range B.size).all (fun k => decide ((B.data.getD k 0).toNat ≤ 8) && decide (k < 2 ^ (B.data.getD k 0).toNat)) = true) :
    LenP x w (.returned (.int .i64 (wrap64 (wrap64 (B[x].toNat : Int))))) w := by
  have := lenP_of B x 0 x 0 rfl (by omega) h (by omega) w hB
  rw [Int.zero_add] at this
  exact this
theorem lenP_e (B : ByteArray) (h : 1 < B.size) (w : World) (hB : (B.data.getD 1 0).toNat = 1) : LenP 4294967296 w (.returned (.int .i64 (wrap64 (32 + wrap64 (B[1].toNat : Int))))) w := by
  have e : B.data.getD 1 0 = B[1] := by
    have h2 : 1 < B.data.size := h
    unfold Array.getD
    rw [dif_pos h2]
    rfl
  rw [e] at hB
  rw [hB]
  exact ⟨33, congrArg (fun z => Ending.returned (Value.int .i64 z)) (show wrap64 (32 + wrap64 ((1 : Nat) : Int)) = ((33 : Nat) : Int) from by unfold wrap64; omega), by omega, by omega, rfl⟩
set_option maxHeartbeats 2000000 in
set_option maxRecDepth 100000 in
theorem len64_a (x : Nat) (w : World) (hx : x < 256) : Calls Try.prog 41 #[.int .u64 (x : Int)] w (LenP x w) := by
  have h1 : decide ((4294967296 : Int) ≤ (x : Int)) = false := by simp; omega
  have h2 : decide ((65536 : Int) ≤ (x : Int)) = false := by simp; omega
  have h3 : decide ((256 : Int) ≤ (x : Int)) = false := by simp; omega
  go_enter Try.func41, Try.ntmps41
  go_wp2_with fail
  go_ret
  exact lenP_zero _ x _ w (by decide +kernel)
set_option maxHeartbeats 2000000 in
set_option maxRecDepth 100000 in
theorem len64_b (x : Nat) (w : World) (hx : 256 ≤ x) (hx2 : x < 65536) : Calls Try.prog 41 #[.int .u64 (x : Int)] w (LenP x w) := by
  have h1 : decide ((4294967296 : Int) ≤ (x : Int)) = false := by simp; omega
  have h2 : decide ((65536 : Int) ≤ (x : Int)) = false := by simp; omega
  have h3 : decide ((256 : Int) ≤ (x : Int)) = true := by simp; omega
  go_enter Try.func41, Try.ntmps41
  go_wp2_with fail
  go_ret
  exact lenP_of _ (x / 256) 8 x 8 rfl (by omega) _ (by omega) w (by decide +kernel)
set_option maxHeartbeats 2000000 in
set_option maxRecDepth 100000 in
theorem len64_c (x : Nat) (w : World) (hx : 65536 ≤ x) (hx2 : x < 16777216) : Calls Try.prog 41 #[.int .u64 (x : Int)] w (LenP x w) := by
  have h1 : decide ((4294967296 : Int) ≤ (x : Int)) = false := by simp; omega
  have h2 : decide ((65536 : Int) ≤ (x : Int)) = true := by simp; omega
  have h3 : decide ((256 : Int) ≤ (x : Int) / 65536) = false := by simp; omega
  go_enter Try.func41, Try.ntmps41
  go_wp2_with fail
  go_ret
  exact lenP_of _ (x / 65536) 16 x 16 rfl (by omega) _ (by omega) w (by decide +kernel)
set_option maxHeartbeats 2000000 in
set_option maxRecDepth 100000 in
theorem len64_d (x : Nat) (w : World) (hx : 16777216 ≤ x) (hx2 : x < 4294967296) : Calls Try.prog 41 #[.int .u64 (x : Int)] w (LenP x w) := by
  have h1 : decide ((4294967296 : Int) ≤ (x : Int)) = false := by simp; omega
  have h2 : decide ((65536 : Int) ≤ (x : Int)) = true := by simp; omega
  have h3 : decide ((256 : Int) ≤ (x : Int) / 65536) = true := by simp; omega
  go_enter Try.func41, Try.ntmps41
  go_wp2_with fail
  go_ret
  exact lenP_of _ (x / 65536 / 256) 24 x 24 rfl (by omega) _ (by omega) w (by decide +kernel)
set_option maxHeartbeats 2000000 in
set_option maxRecDepth 100000 in
theorem len64_e (w : World) : Calls Try.prog 41 #[.int .u64 4294967296] w (LenP 4294967296 w) := by
  go_enter Try.func41, Try.ntmps41
  go_wp2_with fail
  go_ret
  exact lenP_e _ _ w (by decide +kernel)
theorem len64_any (x : Nat) (w : World) (hx : x ≤ 4294967296) : Calls Try.prog 41 #[.int .u64 (x : Int)] w (LenP x w) := by
  by_cases h1 : x < 256
  · exact len64_a x w h1
  · by_cases h2 : x < 65536
    · exact len64_b x w (by omega) h2
    · by_cases h3 : x < 16777216
      · exact len64_c x w (by omega) h3
      · by_cases h4 : x < 4294967296
        · exact len64_d x w (by omega) h4
        · obtain rfl : x = 4294967296 := by omega
          exact len64_e w
end Go.Proofs.Ytbenmebmfihleaa
end
