/- A plan as a value: its lists in memory, and what its parts hold. -/
import Derived.Test.YtmnbpnjakbihdaaIRange
import Derived.Test.YtmnbpnjakbihdaaMayT
namespace Go.Proofs.Ytmnbpnjakbihdaa
open Go.RowKit

variable {w wr w2 : World} {a : Option Addr} {len B B2 g k : Nat} {α : Type} {f : α → Int} {l : List α} {c : α}
/-- A truck's stops: satellite and load. A bike: its satellite, and its stops. -/
structure Pl where
  (tr : List (List (Int × Int))) (bk : List (Int × List Int))
/-- Where a plan's lists lie. -/
structure PlA where
  (ta : Option Addr) (tc : Nat) (ba : Option Addr) (bc : Nat)
/-- Trucks lie one behind another. -/
def IsTrucks (B : Nat) (w : World) (a : Option Addr) (len : Nat) (L : List (List (Int × Int))) : Prop := L.length = len ∧ (len = 0 ∨ ∃ b off, a = some ⟨b, off, none⟩ ∧ b < B ∧
  ∀ (k : Nat) (r : List (Int × Int)), L[k]? = some r → r.length ≤ 9223372036854775807 ∧ ∃ ra rc, w.cell? ⟨b, off + k, none⟩ = some (.slice ra r.length rc) ∧ IsPairs B w ra r.length r ∧ r.length ≤ rc)
theorem IsTrucks.later {L : List (List (Int × Int))} (h : IsTrucks B w a len L) (hb : Below B w w2) : IsTrucks B w2 a len L := ⟨h.1, by
  rcases h.2 with h | ⟨b, off, e, h1, h2⟩
  · exact .inl h
  · refine .inr ⟨b, off, e, h1, fun k r hk => ?_⟩
    obtain ⟨h0, ra, rc, h3, h4, h5⟩ := h2 k r hk
    exact ⟨h0, ra, rc, (hb.cell (p := ⟨b, off + k, none⟩) h1).trans h3, h4.later hb, h5⟩⟩
theorem IsTrucks.mono {L : List (List (Int × Int))} (h : IsTrucks B w a len L) (hb : B ≤ B2) : IsTrucks B2 w a len L := ⟨h.1, by
  rcases h.2 with h | ⟨b, off, e, h1, h2⟩
  · exact .inl h
  · refine .inr ⟨b, off, e, by omega, fun k r hk => ?_⟩
    obtain ⟨h0, ra, rc, h3, h4, h5⟩ := h2 k r hk
    exact ⟨h0, ra, rc, h3, h4.mono hb, h5⟩⟩
theorem IsTrucks.atC {L : List (List (Int × Int))} (h : IsTrucks B w a len L) (hk : k < len) : ∃ b off r ra rc, a = some ⟨b, off, none⟩ ∧ b < B ∧ L[k]? = some r ∧ r.length ≤ 9223372036854775807 ∧ w.cell? ⟨b, off + k, none⟩ = some (.slice ra r.length rc) ∧ IsPairs B w ra r.length r ∧ r.length ≤ rc := by
  obtain ⟨h1, h2⟩ := h
  subst h1
  rcases h2 with h2 | ⟨b, off, e, hb, hr⟩
  · omega
  · obtain ⟨h0, ra, rc, h3, h4, h5⟩ := hr k _ (List.getElem?_eq_getElem hk)
    exact ⟨b, off, _, ra, rc, e, hb, List.getElem?_eq_getElem hk, h0, h3, h4, h5⟩
theorem IsTrucks.at_ {L : List (List (Int × Int))} (h : IsTrucks B w a len L) (hk : k < len) : ∃ b off r ra rc, a = some ⟨b, off, none⟩ ∧ b < B ∧ L[k]? = some r ∧ r.length ≤ 9223372036854775807 ∧ w.cell? ⟨b, off + k, none⟩ = some (.slice ra r.length rc) ∧ IsPairs B w ra r.length r := by
  obtain ⟨b, off, r, ra, rc, h1, h2, h3, h4, h5, h6, _⟩ := h.atC hk
  exact ⟨b, off, r, ra, rc, h1, h2, h3, h4, h5, h6⟩
/-- Bikes lie one behind another. -/
def IsBikes (B : Nat) (w : World) (a : Option Addr) (len : Nat) (L : List (Int × List Int)) : Prop := L.length = len ∧ (len = 0 ∨ ∃ b off, a = some ⟨b, off, none⟩ ∧ b < B ∧
  ∀ (k : Nat) (r : Int × List Int), L[k]? = some r → r.2.length ≤ 9223372036854775807 ∧ ∃ ra rc, w.cell? ⟨b, off + k * 2, none⟩ = some (.int .i64 r.1) ∧ w.cell? ⟨b, off + k * 2 + 1, none⟩ = some (.slice ra r.2.length rc) ∧ IsNums B w ra r.2.length r.2)
theorem IsBikes.later {L : List (Int × List Int)} (h : IsBikes B w a len L) (hb : Below B w w2) : IsBikes B w2 a len L := ⟨h.1, by
  rcases h.2 with h | ⟨b, off, e, h1, h2⟩
  · exact .inl h
  · refine .inr ⟨b, off, e, h1, fun k r hk => ?_⟩
    obtain ⟨h0, ra, rc, h3, h4, h5⟩ := h2 k r hk
    exact ⟨h0, ra, rc, (hb.cell (p := ⟨b, off + k * 2, none⟩) h1).trans h3, (hb.cell (p := ⟨b, off + k * 2 + 1, none⟩) h1).trans h4, h5.later hb⟩⟩
theorem IsBikes.mono {L : List (Int × List Int)} (h : IsBikes B w a len L) (hb : B ≤ B2) : IsBikes B2 w a len L := ⟨h.1, by
  rcases h.2 with h | ⟨b, off, e, h1, h2⟩
  · exact .inl h
  · refine .inr ⟨b, off, e, by omega, fun k r hk => ?_⟩
    obtain ⟨h0, ra, rc, h3, h4, h5⟩ := h2 k r hk
    exact ⟨h0, ra, rc, h3, h4, h5.mono hb⟩⟩
theorem IsBikes.at_ {L : List (Int × List Int)} (h : IsBikes B w a len L) (hk : k < len) : ∃ b off r ra rc, a = some ⟨b, off, none⟩ ∧ b < B ∧ L[k]? = some r ∧ r.2.length ≤ 9223372036854775807 ∧ w.cell? ⟨b, off + k * 2, none⟩ = some (.int .i64 r.1) ∧ w.cell? ⟨b, off + k * 2 + 1, none⟩ = some (.slice ra r.2.length rc) ∧ IsNums B w ra r.2.length r.2 := by
  obtain ⟨h1, h2⟩ := h
  subst h1
  rcases h2 with h2 | ⟨b, off, e, hb, hr⟩
  · omega
  · obtain ⟨h0, ra, rc, h3, h4, h5⟩ := hr k _ (List.getElem?_eq_getElem hk)
    exact ⟨b, off, _, ra, rc, e, hb, List.getElem?_eq_getElem hk, h0, h3, h4, h5⟩
structure IsPl (B : Nat) (w : World) (A : PlA) (p : Pl) : Prop where
  tr : IsTrucks B w A.ta p.tr.length p.tr
  bk : IsBikes B w A.ba p.bk.length p.bk
  lt : p.tr.length ≤ 9223372036854775807
  lb : p.bk.length ≤ 9223372036854775807
variable {P : PlA} {p : Pl}
theorem IsPl.later (h : IsPl B w P p) (hb : Below B w w2) : IsPl B w2 P p := ⟨h.tr.later hb, h.bk.later hb, h.lt, h.lb⟩
theorem IsPl.mono (h : IsPl B w P p) (hb : B ≤ B2) : IsPl B2 w P p := ⟨h.tr.mono hb, h.bk.mono hb, h.lt, h.lb⟩
abbrev plC (P : PlA) (p : Pl) : Array Value := #[.slice P.ta p.tr.length P.tc, .slice P.ba p.bk.length P.bc]
/-- wr is w but for what is new; block g, new, holds these cells. -/
structure CBox (w wr : World) (g : Nat) (C : Array Value) (T : TypeId) : Prop where
  below : Below w.heap.size w wr
  ge : w.heap.size ≤ g
  blk : wr.heap[g]? = some (.cells C T (0, 0))
variable {C : Array Value} {T : TypeId}
theorem CBox.lt (h : CBox w wr g C T) : g < wr.heap.size := (Array.getElem?_eq_some_iff.1 h.blk).1
theorem CBox.make (h : Below w.heap.size w wr) (C : Array Value) (T : TypeId) : CBox w (wr.alloc (.cells C T)) wr.heap.size C T := ⟨h.alloc h.size _, h.size, heap_alloc_new _ _⟩
theorem CBox.later (h : CBox w wr g C T) (hb : Below wr.heap.size wr w2) : CBox w w2 g C T := ⟨h.below.trans (hb.mono h.below.size), h.ge, (hb.block g h.lt).trans h.blk⟩
theorem CBox.alloc (h : CBox w wr g C T) (o : Obj) : CBox w (wr.alloc o) g C T := h.later ((Below.refl _ _).alloc (Nat.le_refl _) _)
theorem CBox.cell1 {v : Value} (h : CBox w wr g #[v] T) : wr.cell? ⟨g, 0, none⟩ = some v := by simp [World.cell?, h.blk]
theorem CBox.cell2 {u v : Value} (h : CBox w wr g #[u, v] T) : wr.cell? ⟨g, 0, none⟩ = some u ∧ wr.cell? ⟨g, 1, none⟩ = some v := by simp [World.cell?, h.blk]
theorem XBox.alloc {A : InA} {x : Ins} (h : XBox w wr g A x) (o : Obj) : XBox w (wr.alloc o) g A x := h.later ((Below.refl _ _).alloc (Nat.le_refl _) _)
/-- Sums. -/
def sumF (f : α → Int) (l : List α) : Int := (l.map f).sum
theorem sumF_nil : sumF f [] = 0 := rfl
theorem sumF_snoc : sumF f (l ++ [c]) = sumF f l + f c := by simp [sumF]
theorem sumF_cons : sumF f (c :: l) = f c + sumF f l := by simp [sumF]
theorem sumF_next (h : l[k]? = some c) : sumF f (l.take (k + 1)) = sumF f (l.take k) + f c := by
  rw [List.take_add_one, h]
  exact sumF_snoc
theorem sumF_in {M : Int} : ∀ {l : List α}, (∀ c ∈ l, 0 ≤ f c ∧ f c ≤ M) → 0 ≤ sumF f l ∧ sumF f l ≤ (l.length : Int) * M
  | [], _ => by simp [sumF]
  | a :: l, h => by
    have ih := sumF_in (l := l) (fun c hc => h c (List.mem_cons_of_mem _ hc))
    have h1 := h a List.mem_cons_self
    rw [sumF_cons, List.length_cons]
    have : ((l.length + 1 : Nat) : Int) * M = (l.length : Int) * M + M := by rw [Int.natCast_add, Int.add_mul]; omega
    omega
theorem sumF_take_in {M : Int} (h : ∀ c ∈ l, 0 ≤ f c ∧ f c ≤ M) (hM : 0 ≤ M) (hk : k ≤ 1000) : 0 ≤ sumF f (l.take k) ∧ sumF f (l.take k) ≤ 1000 * M := by
  obtain ⟨h1, h2⟩ := sumF_in (f := f) (M := M) (l := l.take k) (fun c hc => h c (List.mem_of_mem_take hc))
  have h3 : ((l.take k).length : Int) ≤ 1000 := by rw [List.length_take]; omega
  exact ⟨h1, Int.le_trans h2 (Int.mul_le_mul_of_nonneg_right h3 hM)⟩
/-- One of so many. -/
def amB (n m : Int) : Bool := decide (0 ≤ n) && decide (n < m)
theorem amB_true {n m : Int} : amB n m = true ↔ 0 ≤ n ∧ n < m := by simp [amB]
theorem amB_false {n m : Int} : amB n m = false ↔ ¬ (0 ≤ n ∧ n < m) := by rw [← amB_true]; simp
def tload (t : List (Int × Int)) : Int := sumF (·.2) t
def wantL (x : Ins) (c : Int) : Int := if amB c x.cus.length = true then (x.cus.getD c.toNat (0, 0, 0, 0)).1 else 0
def bload (x : Ins) (l : List Int) : Int := sumF (wantL x) l
theorem wantL_in {x : Ins} (hm : May x) (c : Int) : 0 ≤ wantL x c ∧ wantL x c ≤ 1000000000 := by
  unfold wantL
  split
  · rename_i h
    have h := amB_true.1 h
    have hk : c.toNat < x.cus.length := by omega
    have hc := hm.cus _ (List.getElem_mem hk)
    rw [show x.cus.getD c.toNat (0, 0, 0, 0) = x.cus[c.toNat] by simp [List.getD, List.getElem?_eq_getElem hk]]
    simp [cusB, inB_] at hc
    omega
  · omega
/-- What the bikes of a satellite carry; what trucks leave there. -/
def loadS (x : Ins) (l : List (Int × List Int)) (s : Nat) : Int := sumF (fun b => if b.1 = (s : Int) then bload x b.2 else 0) l
def leftT (t : List (Int × Int)) (s : Nat) : Int := sumF (fun z => if z.1 = (s : Int) then z.2 else 0) t
def leftS (l : List (List (Int × Int))) (s : Nat) : Int := sumF (fun t => leftT t s) l
/-- All customers on bikes. -/
def flatB (l : List (Int × List Int)) : List Int := l.flatMap (·.2)
theorem flatB_next {l : List (Int × List Int)} {b : Int × List Int} (h : l[k]? = some b) : flatB (l.take (k + 1)) = flatB (l.take k) ++ b.2 := by
  unfold flatB
  rw [List.take_add_one, h]
  simp
theorem flatB_all {l : List (Int × List Int)} {n : Nat} (h : l.length ≤ n) : flatB (l.take n) = flatB l := by rw [List.take_of_length_le h]
/-- A stop may be, behind these. -/
def okS (ns : Nat) (l : List (Int × Int)) (s : Int × Int) : Prop := amB s.1 ns = true ∧ (∀ o ∈ l, o.1 ≠ s.1) ∧ 1 ≤ s.2 ∧ s.2 ≤ 1000000000
/-- A truck may go. -/
def goT (ns : Nat) (t : List (Int × Int)) : Prop := t ≠ [] ∧ ∀ (j : Nat) (s : Int × Int), t[j]? = some s → okS ns (t.take j) s
def TGo (ns : Nat) (l : List (List (Int × Int))) : Prop := ∀ (k : Nat) (t : List (Int × Int)), l[k]? = some t → goT ns t
/-- A customer may be gone to, behind these. -/
def okC (nc : Nat) (l : List Int) (c : Int) : Prop := amB c nc = true ∧ ¬ c ∈ l
/-- A bike may go, behind these. -/
def goB (ns nc : Nat) (l : List (Int × List Int)) (b : Int × List Int) : Prop := amB b.1 ns = true ∧ b.2 ≠ [] ∧ ∀ (j : Nat) (c : Int), b.2[j]? = some c → okC nc (flatB l ++ b.2.take j) c
def BGo (ns nc : Nat) (l : List (Int × List Int)) : Prop := ∀ (k : Nat) (b : Int × List Int), l[k]? = some b → goB ns nc (l.take k) b
/-- All find room. -/
structure FitsP (x : Ins) (p : Pl) : Prop where
  tr : ∀ t ∈ p.tr, tload t ≤ x.tr
  bk : ∀ b ∈ p.bk, bload x b.2 ≤ x.br
  sat : ∀ s, s < x.sats.length → loadS x p.bk s ≤ (x.sats.getD s (0, 0)).1
/-- Which error a plan has, of an instance that may be. -/
def PErr (x : Ins) (p : Pl) (e : Int) : Prop :=
  ((x.tm < (p.tr.length : Int) ∨ x.bm < (p.bk.length : Int)) ∧ e = 11) ∨
  ((p.tr.length : Int) ≤ x.tm ∧ (p.bk.length : Int) ≤ x.bm ∧
    ((¬ (TGo x.sats.length p.tr ∧ BGo x.sats.length x.cus.length p.bk) ∧ e = 15) ∨
    (TGo x.sats.length p.tr ∧ BGo x.sats.length x.cus.length p.bk ∧
      ((¬ (∀ c : Nat, c < x.cus.length → (c : Int) ∈ flatB p.bk) ∧ e = 8) ∨
      ((∀ c : Nat, c < x.cus.length → (c : Int) ∈ flatB p.bk) ∧
        ((¬ FitsP x p ∧ e = 10) ∨
        (FitsP x p ∧
          ((¬ (∀ s, s < x.sats.length → leftS p.tr s = loadS x p.bk s) ∧ e = 13) ∨
          ((∀ s, s < x.sats.length → leftS p.tr s = loadS x p.bk s) ∧ e = 0)))))))))
theorem PErr.unique {x : Ins} {e1 e2 : Int} (h1 : PErr x p e1) (h2 : PErr x p e2) : e1 = e2 := by
  rcases h1 with ⟨a1, rfl⟩ | ⟨a1, b1, h1⟩ <;> rcases h2 with ⟨a2, rfl⟩ | ⟨a2, b2, h2⟩
  · rfl
  · omega
  · omega
  rcases h1 with ⟨a1, rfl⟩ | ⟨a1, b1, h1⟩ <;> rcases h2 with ⟨a2, rfl⟩ | ⟨a2, b2, h2⟩
  · rfl
  · exact absurd ⟨a2, b2⟩ a1
  · exact absurd ⟨a1, b1⟩ a2
  rcases h1 with ⟨a1, rfl⟩ | ⟨a1, h1⟩ <;> rcases h2 with ⟨a2, rfl⟩ | ⟨a2, h2⟩
  · rfl
  · exact absurd a2 a1
  · exact absurd a1 a2
  rcases h1 with ⟨a1, rfl⟩ | ⟨a1, h1⟩ <;> rcases h2 with ⟨a2, rfl⟩ | ⟨a2, h2⟩
  · rfl
  · exact absurd a2 a1
  · exact absurd a1 a2
  rcases h1 with ⟨a1, rfl⟩ | ⟨a1, rfl⟩ <;> rcases h2 with ⟨a2, rfl⟩ | ⟨a2, rfl⟩
  · rfl
  · exact absurd a2 a1
  · exact absurd a1 a2
  · rfl
/-- What a truck that may go leaves, and how often it stops. -/
theorem goT_in {ns : Nat} {t : List (Int × Int)} (h : goT ns t) : ∀ s ∈ t, 1 ≤ s.2 ∧ s.2 ≤ 1000000000 := fun s hs => by
  obtain ⟨j, hj⟩ := List.getElem?_of_mem hs
  have := (h.2 j s hj).2.2
  omega
theorem nodup_leP : ∀ (N : Nat) (o : List Nat), o.Nodup → (∀ i ∈ o, i < N) → o.length ≤ N
  | 0, o, _, h => by
    have : o = [] := List.eq_nil_iff_forall_not_mem.2 (fun i hi => by have := h i hi; omega)
    subst this
    exact Nat.le_refl _
  | N + 1, o, hn, h => by
    have hn2 : (o.erase N).Nodup := hn.erase N
    have h1 := nodup_leP N (o.erase N) hn2 (fun i hi => by
      have hm := (hn.mem_erase_iff.1 hi)
      have := h i hm.2
      omega)
    by_cases hN : N ∈ o
    · have hl := List.length_erase_of_mem hN
      have hpos : 0 < o.length := List.length_pos_of_mem hN
      omega
    · rw [List.erase_of_not_mem hN] at h1
      omega
theorem distinct_le {β : Type} {f : β → Int} {n : Nat} {l : List β} (h : ∀ (j : Nat) (s : β), l[j]? = some s → (0 ≤ f s ∧ f s < (n : Int)) ∧ ∀ o ∈ l.take j, f o ≠ f s) : l.length ≤ n := by
  have h1 : (l.map (fun s => (f s).toNat)).Nodup := by
    unfold List.Nodup
    rw [List.pairwise_map, List.pairwise_iff_getElem]
    intro i j hi hj hij e
    have e1 := (h i _ (List.getElem?_eq_getElem hi)).1
    have e2 := (h j _ (List.getElem?_eq_getElem hj))
    exact e2.2 l[i] (by rw [List.mem_take_iff_getElem]; exact ⟨i, by omega, rfl⟩) (by omega)
  have h2 : ∀ z ∈ l.map (fun s => (f s).toNat), z ∈ List.range n := fun z hz => by
    obtain ⟨s, hs, rfl⟩ := List.mem_map.1 hz
    obtain ⟨j, hj⟩ := List.getElem?_of_mem hs
    have := (h j s hj).1
    rw [List.mem_range]; omega
  have h3 := nodup_leP n _ h1 (fun z hz => List.mem_range.1 (h2 z hz))
  simpa using h3
theorem goT_le {ns : Nat} {t : List (Int × Int)} (h : goT ns t) : t.length ≤ ns := distinct_le (f := (·.1)) fun j s hj => by
  have := h.2 j s hj
  exact ⟨amB_true.1 this.1, this.2.1⟩
end Go.Proofs.Ytmnbpnjakbihdaa
