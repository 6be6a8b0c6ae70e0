/- Instances: their numbers, how they lie in memory, which error they have. -/
import Derived.Test.YtmnbpnjakbihdaaPiRow
namespace Go.Proofs.Ytmnbpnjakbihdaa
open Go.RowKit

/-- An instance's numbers: the end; trucks, bikes (how many, their room); satellites (room, hold); customers (load, open, close, stay); what it costs, how long it takes. -/
structure Ins where
  (en tm tr bm br : Int)
  sats : List (Int × Int)
  cus : List Pi
  cost : List (List Int)
  time : List (List Int)
def Ins.nodes (x : Ins) : Nat := 1 + x.sats.length + x.cus.length
/-- Are there as many things as may be? -/
def Ins.count (x : Ins) : Bool := decide (1 ≤ x.tm ∧ x.tm ≤ 60) && decide (1 ≤ x.bm ∧ x.bm ≤ 60) && decide (1 ≤ x.sats.length ∧ x.sats.length ≤ 12) && decide (1 ≤ x.cus.length ∧ x.cus.length ≤ 48)
/-- All below n. -/
def allR (n : Nat) (f : Nat → Bool) : Bool := (List.range n).all f
theorem allR_zero (f : Nat → Bool) : allR 0 f = true := rfl
theorem allR_succ (n : Nat) (f : Nat → Bool) : allR (n + 1) f = (allR n f && f n) := by simp [allR, List.range_succ]
theorem allR_true {n : Nat} {f : Nat → Bool} : allR n f = true ↔ ∀ i, i < n → f i = true := by simp [allR]
/-- So many rows of as many numbers. -/
def lenB (n : Nat) (r : List Int) : Bool := decide (r.length = n)
def sqB (n : Nat) (l : List (List Int)) : Bool := decide (l.length = n) && allR l.length (fun i => lenB n (l.getD i []))
def inB_ (v low : Int) : Bool := decide (low ≤ v) && decide (v ≤ 1000000000)
/-- The number in row i, column k is good. -/
def elB (i k : Nat) (v : Int) : Bool := inB_ v 0 && (decide (i ≠ k) || decide (v = 0))
def rowB (i : Nat) (r : List Int) : Bool := allR r.length (fun k => elB i k (r.getD k 0))
def rowsB (l : List (List Int)) : Bool := allR l.length (fun i => rowB i (l.getD i []))
def satB (s : Int × Int) : Bool := inB_ s.1 0 && inB_ s.2 0
def cusB (c : Pi) : Bool := inB_ c.1 1 && inB_ c.2.1 0 && inB_ c.2.2.1 c.2.1 && inB_ c.2.2.2 0
def Ins.size (x : Ins) : Bool := sqB x.nodes x.cost && sqB x.nodes x.time
def Ins.good (x : Ins) : Bool := rowsB x.cost && rowsB x.time && inB_ x.en 0 && inB_ x.tr 0 && inB_ x.br 0 && allR x.sats.length (fun i => satB (x.sats.getD i (0, 0))) && allR x.cus.length (fun i => cusB (x.cus.getD i (0, 0, 0, 0)))
/-- Which error it has. -/
def instErr (x : Ins) : Int := if x.count = true then (if x.size = true then (if x.good = true then 0 else 2) else 4) else 9
/-- Is it small? -/
def Ins.light (x : Ins) : Bool := decide (x.sats.length ≤ 40) && decide (x.cus.length ≤ 60) && decide (x.cost.length ≤ 70) && decide (x.time.length ≤ 70) && x.cost.all (fun r => decide (r.length ≤ 80)) && x.time.all (fun r => decide (r.length ≤ 80))
variable {w wr w2 : World} {a : Option Addr} {len cap B B2 g k : Nat} {l : List (Int × Int)} {L : List (List Int)} {n : Int}
/-- Pairs lie one behind another. -/
def PairRow (w : World) (b off : Nat) (l : List (Int × Int)) : Prop := ∀ (k : Nat) (x : Int × Int), l[k]? = some x → w.cell? ⟨b, off + k * 2, none⟩ = some (.int .i64 x.1) ∧ w.cell? ⟨b, off + k * 2 + 1, none⟩ = some (.int .i64 x.2)
def IsPairs (B : Nat) (w : World) (a : Option Addr) (len : Nat) (l : List (Int × Int)) : Prop := l.length = len ∧ (len = 0 ∨ ∃ b off, a = some ⟨b, off, none⟩ ∧ b < B ∧ PairRow w b off l)
theorem PairRow.of_block {b off : Nat} (h : PairRow w b off l) (e : w2.heap[b]? = w.heap[b]?) : PairRow w2 b off l := fun k x hk => by
  obtain ⟨h1, h2⟩ := h k x hk
  exact ⟨(World.cell?_of_block (w := w) (by exact e)).trans h1, (World.cell?_of_block (w := w) (by exact e)).trans h2⟩
theorem IsPairs.later (h : IsPairs B w a len l) (hb : Below B w w2) : IsPairs B w2 a len l := ⟨h.1, by
  rcases h.2 with h | ⟨b, off, e, h1, h2⟩
  · exact .inl h
  · exact .inr ⟨b, off, e, h1, h2.of_block (hb.block b h1)⟩⟩
theorem IsPairs.mono (h : IsPairs B w a len l) (hb : B ≤ B2) : IsPairs B2 w a len l := ⟨h.1, by
  rcases h.2 with h | ⟨b, off, e, h1, h2⟩
  · exact .inl h
  · exact .inr ⟨b, off, e, by omega, h2⟩⟩
theorem IsPairs.at_ (h : IsPairs B w a len l) (hk : k < len) : ∃ b off x, a = some ⟨b, off, none⟩ ∧ b < B ∧ l[k]? = some x ∧ w.cell? ⟨b, off + k * 2, none⟩ = some (.int .i64 x.1) ∧ w.cell? ⟨b, off + k * 2 + 1, none⟩ = some (.int .i64 x.2) := by
  obtain ⟨h1, h2⟩ := h
  subst h1
  rcases h2 with h2 | ⟨b, off, e, hb, hr⟩
  · omega
  · exact ⟨b, off, _, e, hb, List.getElem?_eq_getElem hk, hr k _ (List.getElem?_eq_getElem hk)⟩
/-- Rows of numbers: a slice of slices. -/
def IsRows (B : Nat) (w : World) (a : Option Addr) (len : Nat) (L : List (List Int)) : Prop := L.length = len ∧ (len = 0 ∨ ∃ b off, a = some ⟨b, off, none⟩ ∧ b < B ∧
  ∀ (k : Nat) (r : List Int), L[k]? = some r → r.length ≤ 9223372036854775807 ∧ ∃ ra rc, w.cell? ⟨b, off + k, none⟩ = some (.slice ra r.length rc) ∧ IsNums B w ra r.length r)
theorem IsRows.later (h : IsRows B w a len L) (hb : Below B w w2) : IsRows B w2 a len L := ⟨h.1, by
  rcases h.2 with h | ⟨b, off, e, h1, h2⟩
  · exact .inl h
  · refine .inr ⟨b, off, e, h1, fun k r hk => ?_⟩
    obtain ⟨h0, ra, rc, h3, h4⟩ := h2 k r hk
    exact ⟨h0, ra, rc, (hb.cell (p := ⟨b, off + k, none⟩) h1).trans h3, h4.later hb⟩⟩
theorem IsRows.mono (h : IsRows B w a len L) (hb : B ≤ B2) : IsRows B2 w a len L := ⟨h.1, by
  rcases h.2 with h | ⟨b, off, e, h1, h2⟩
  · exact .inl h
  · refine .inr ⟨b, off, e, by omega, fun k r hk => ?_⟩
    obtain ⟨h0, ra, rc, h3, h4⟩ := h2 k r hk
    exact ⟨h0, ra, rc, h3, h4.mono hb⟩⟩
theorem IsRows.at_ (h : IsRows B w a len L) (hk : k < len) : ∃ b off r ra rc, a = some ⟨b, off, none⟩ ∧ b < B ∧ L[k]? = some r ∧ r.length ≤ 9223372036854775807 ∧ w.cell? ⟨b, off + k, none⟩ = some (.slice ra r.length rc) ∧ IsNums B w ra r.length r := by
  obtain ⟨h1, h2⟩ := h
  subst h1
  rcases h2 with h2 | ⟨b, off, e, hb, hr⟩
  · omega
  · obtain ⟨h0, ra, rc, h3, h4⟩ := hr k _ (List.getElem?_eq_getElem hk)
    exact ⟨b, off, _, ra, rc, e, hb, List.getElem?_eq_getElem hk, h0, h3, h4⟩
/-- Where an instance's lists lie. -/
structure InA where
  (sa : Option Addr) (sc : Nat) (ca : Option Addr) (cc : Nat) (ka : Option Addr) (kc : Nat) (ta : Option Addr) (tc : Nat)
/-- The instance's four lists in memory. -/
structure IsIns (B : Nat) (w : World) (A : InA) (x : Ins) : Prop where
  sats : IsPairs B w A.sa x.sats.length x.sats
  cus : IsPipes B w A.ca x.cus.length x.cus
  cost : IsRows B w A.ka x.cost.length x.cost
  time : IsRows B w A.ta x.time.length x.time
variable {A : InA} {x : Ins}
theorem IsIns.later (h : IsIns B w A x) (hb : Below B w w2) : IsIns B w2 A x := ⟨h.sats.later hb, h.cus.later hb, h.cost.later hb, h.time.later hb⟩
theorem IsIns.mono (h : IsIns B w A x) (hb : B ≤ B2) : IsIns B2 w A x := ⟨h.sats.mono hb, h.cus.mono hb, h.cost.mono hb, h.time.mono hb⟩
/-- Its cells. -/
abbrev insC (A : InA) (x : Ins) : Array Value := #[.int .i64 x.en, .int .i64 x.tm, .int .i64 x.tr, .int .i64 x.bm, .int .i64 x.br, .slice A.sa x.sats.length A.sc, .slice A.ca x.cus.length A.cc, .slice A.ka x.cost.length A.kc, .slice A.ta x.time.length A.tc]
/-- How long its lists may be at all. -/
structure Ins.Len (x : Ins) : Prop where
  sats : x.sats.length ≤ 9223372036854775807
  cus : x.cus.length ≤ 9223372036854775807
  cost : x.cost.length ≤ 9223372036854775807
  time : x.time.length ≤ 9223372036854775807
/-- wr is w but for what is new; block g, new, holds the instance. -/
structure XBox (w wr : World) (g : Nat) (A : InA) (x : Ins) : Prop where
  below : Below w.heap.size w wr
  ge : w.heap.size ≤ g
  blk : wr.heap[g]? = some (.cells (insC A x) 37 (0, 0))
theorem XBox.lt (h : XBox w wr g A x) : g < wr.heap.size := (Array.getElem?_eq_some_iff.1 h.blk).1
theorem XBox.make (h : Below w.heap.size w wr) (A : InA) (x : Ins) : XBox w (wr.alloc (.cells (insC A x) 37)) wr.heap.size A x := ⟨h.alloc h.size _, h.size, heap_alloc_new _ _⟩
theorem XBox.later (h : XBox w wr g A x) (hb : Below wr.heap.size wr w2) : XBox w w2 g A x := ⟨h.below.trans (hb.mono h.below.size), h.ge, (hb.block g h.lt).trans h.blk⟩
theorem XBox.cells (h : XBox w wr g A x) : wr.cell? ⟨g, 0, none⟩ = some (.int .i64 x.en) ∧ wr.cell? ⟨g, 1, none⟩ = some (.int .i64 x.tm) ∧ wr.cell? ⟨g, 2, none⟩ = some (.int .i64 x.tr) ∧ wr.cell? ⟨g, 3, none⟩ = some (.int .i64 x.bm) ∧ wr.cell? ⟨g, 4, none⟩ = some (.int .i64 x.br) ∧
    wr.cell? ⟨g, 5, none⟩ = some (.slice A.sa x.sats.length A.sc) ∧ wr.cell? ⟨g, 6, none⟩ = some (.slice A.ca x.cus.length A.cc) ∧ wr.cell? ⟨g, 7, none⟩ = some (.slice A.ka x.cost.length A.kc) ∧ wr.cell? ⟨g, 8, none⟩ = some (.slice A.ta x.time.length A.tc) := by
  simp [World.cell?, h.blk]
theorem XBox.pipesHere (h : XBox w wr g A x) (hl : IsIns w.heap.size w A x) : IsIns wr.heap.size wr A x := (hl.later h.below).mono h.below.size
end Go.Proofs.Ytmnbpnjakbihdaa
