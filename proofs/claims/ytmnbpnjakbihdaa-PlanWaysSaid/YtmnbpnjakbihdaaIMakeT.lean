/- The law's own instances, by small numbers: what is made of them, how it lies in memory. -/
import Derived.Test.YtmnbpnjakbihdaaISq
namespace Go.Proofs.Ytmnbpnjakbihdaa
open Go.RowKit

/-- An instance by small numbers. -/
structure Sm where
  (e t tr b br : Int)
  sats : List (Int × Int)
  whos : List Pi
  cost : List Int
  time : List Int
  tight : Bool
  loose : Bool
def sm8 (z : Int) : Prop := 0 ≤ z ∧ z ≤ 255
structure Sm.Ok (s : Sm) : Prop where
  e : sm8 s.e
  t : sm8 s.t
  tr : sm8 s.tr
  b : sm8 s.b
  br : sm8 s.br
def Sm.wide (s : Sm) : Int := if s.loose = true then 9 else 1
theorem Sm.wide_le (s : Sm) : 1 ≤ s.wide ∧ s.wide ≤ 9 := by unfold Sm.wide; split <;> omega
/-- What is made of a satellite, of a customer. -/
def satOf (wd : Int) (p : Int × Int) : Int × Int := (4 + wd * (p.1 % 40), p.2 % 12)
def loadOf (tight : Bool) (z : Int) : Int := if tight = true then 1 + z % 6 + z / 32 else 1 + z % 6
def whoOf (wd : Int) (tight : Bool) (c : Pi) : Pi := (loadOf tight c.1, c.2.1 % 50, c.2.1 % 50 + wd * c.2.2.1, c.2.2.2 % 8)
def satsTo (s : Sm) (k : Nat) : List (Int × Int) := ((s.sats.take 3).take k).map (satOf s.wide)
def cusTo (s : Sm) (k : Nat) : List Pi := ((s.whos.take 6).take k).map (whoOf s.wide s.tight)
def satsOf (s : Sm) : List (Int × Int) := if satsTo s s.sats.length = [] then [(60, 2)] else satsTo s s.sats.length
def cusOf (s : Sm) : List Pi := if cusTo s s.whos.length = [] then [(2, 5, 90, 1)] else cusTo s s.whos.length
def nodesOf (s : Sm) : Nat := 1 + (satsOf s).length + (cusOf s).length
def sqRows (zs : List Int) (N : Nat) : List (List Int) := (List.range N).map (fun i => (List.range N).map (sqE zs N i))
/-- The instance that is made. -/
def makeI (s : Sm) : Ins := ⟨40 + s.e * s.wide, 1 + s.t % 4, 5 + s.wide * (s.tr % 40), 1 + s.b % 6, 3 + s.wide * (s.br % 20), satsOf s, cusOf s, sqRows s.cost (nodesOf s), sqRows s.time (nodesOf s)⟩
variable {w wr w2 w4 : World} {B k len g : Nat} {a : Option Addr} {s : Sm} {p : Int × Int} {c : Pi} {l : List (Int × Int)} {v : Value}
theorem satsTo_on (hx : s.sats[k]? = some p) (hk : k < 3) : satsTo s (k + 1) = satsTo s k ++ [satOf s.wide p] := by
  have : (s.sats.take 3)[k]? = some p := by rw [List.getElem?_take, if_pos hk, hx]
  rw [satsTo, List.take_add_one, this, List.map_append]
  rfl
theorem satsTo_off (hk : 3 ≤ k) : satsTo s (k + 1) = satsTo s k := by
  have e : ∀ j, 3 ≤ j → (s.sats.take 3).take j = s.sats.take 3 := fun j hj => List.take_of_length_le (by rw [List.length_take]; omega)
  rw [satsTo, satsTo, e k hk, e (k + 1) (by omega)]
theorem satsTo_len (hk : k ≤ s.sats.length) : (satsTo s k).length = min k 3 := by
  rw [satsTo, List.length_map, List.length_take, List.length_take]
  omega
theorem cusTo_on (hx : s.whos[k]? = some c) (hk : k < 6) : cusTo s (k + 1) = cusTo s k ++ [whoOf s.wide s.tight c] := by
  have : (s.whos.take 6)[k]? = some c := by rw [List.getElem?_take, if_pos hk, hx]
  rw [cusTo, List.take_add_one, this, List.map_append]
  rfl
theorem cusTo_off (hk : 6 ≤ k) : cusTo s (k + 1) = cusTo s k := by
  have e : ∀ j, 6 ≤ j → (s.whos.take 6).take j = s.whos.take 6 := fun j hj => List.take_of_length_le (by rw [List.length_take]; omega)
  rw [cusTo, cusTo, e k hk, e (k + 1) (by omega)]
theorem cusTo_len (hk : k ≤ s.whos.length) : (cusTo s k).length = min k 6 := by
  rw [cusTo, List.length_map, List.length_take, List.length_take]
  omega
/-! ### In memory -/
def PairU (w : World) (b off : Nat) (l : List (Int × Int)) : Prop := ∀ (k : Nat) (x : Int × Int), l[k]? = some x → w.cell? ⟨b, off + k * 2, none⟩ = some (.int .u8 x.1) ∧ w.cell? ⟨b, off + k * 2 + 1, none⟩ = some (.int .u8 x.2)
def IsSatU (B : Nat) (w : World) (a : Option Addr) (len : Nat) (l : List (Int × Int)) : Prop := l.length = len ∧ (∀ x ∈ l, sm8 x.1 ∧ sm8 x.2) ∧ (len = 0 ∨ ∃ b off, a = some ⟨b, off, none⟩ ∧ b < B ∧ PairU w b off l)
def QuadU (w : World) (b off : Nat) (l : List Pi) : Prop := ∀ (k : Nat) (x : Pi), l[k]? = some x →
  w.cell? ⟨b, off + k * 4, none⟩ = some (.int .u8 x.1) ∧ w.cell? ⟨b, off + k * 4 + 1, none⟩ = some (.int .u8 x.2.1) ∧ w.cell? ⟨b, off + k * 4 + 2, none⟩ = some (.int .u8 x.2.2.1) ∧ w.cell? ⟨b, off + k * 4 + 3, none⟩ = some (.int .u8 x.2.2.2)
def IsWhoU (B : Nat) (w : World) (a : Option Addr) (len : Nat) (l : List Pi) : Prop := l.length = len ∧ (∀ x ∈ l, sm8 x.1 ∧ sm8 x.2.1 ∧ sm8 x.2.2.1 ∧ sm8 x.2.2.2) ∧ (len = 0 ∨ ∃ b off, a = some ⟨b, off, none⟩ ∧ b < B ∧ QuadU w b off l)
theorem IsSatU.later (h : IsSatU B w a len l) (hb : Below B w w2) : IsSatU B w2 a len l := ⟨h.1, h.2.1, by
  rcases h.2.2 with h | ⟨b, off, e, h1, h2⟩
  · exact .inl h
  · exact .inr ⟨b, off, e, h1, fun k x hk => ⟨(hb.cell (p := ⟨b, off + k * 2, none⟩) h1).trans (h2 k x hk).1, (hb.cell (p := ⟨b, off + k * 2 + 1, none⟩) h1).trans (h2 k x hk).2⟩⟩⟩
theorem IsSatU.at_ (h : IsSatU B w a len l) (hk : k < len) : ∃ b off x, a = some ⟨b, off, none⟩ ∧ l[k]? = some x ∧ (sm8 x.1 ∧ sm8 x.2) ∧ w.cell? ⟨b, off + k * 2, none⟩ = some (.int .u8 x.1) ∧ w.cell? ⟨b, off + k * 2 + 1, none⟩ = some (.int .u8 x.2) := by
  obtain ⟨h1, h3, h2⟩ := h
  subst h1
  rcases h2 with h2 | ⟨b, off, e, hb, hr⟩
  · omega
  · exact ⟨b, off, _, e, List.getElem?_eq_getElem hk, h3 _ (List.getElem_mem hk), hr k _ (List.getElem?_eq_getElem hk)⟩
theorem IsWhoU.later {l : List Pi} (h : IsWhoU B w a len l) (hb : Below B w w2) : IsWhoU B w2 a len l := ⟨h.1, h.2.1, by
  rcases h.2.2 with h | ⟨b, off, e, h1, h2⟩
  · exact .inl h
  · exact .inr ⟨b, off, e, h1, fun k x hk => ⟨(hb.cell (p := ⟨b, off + k * 4, none⟩) h1).trans (h2 k x hk).1, (hb.cell (p := ⟨b, off + k * 4 + 1, none⟩) h1).trans (h2 k x hk).2.1, (hb.cell (p := ⟨b, off + k * 4 + 2, none⟩) h1).trans (h2 k x hk).2.2.1, (hb.cell (p := ⟨b, off + k * 4 + 3, none⟩) h1).trans (h2 k x hk).2.2.2⟩⟩⟩
theorem IsWhoU.at_ {l : List Pi} (h : IsWhoU B w a len l) (hk : k < len) : ∃ b off x, a = some ⟨b, off, none⟩ ∧ l[k]? = some x ∧ (sm8 x.1 ∧ sm8 x.2.1 ∧ sm8 x.2.2.1 ∧ sm8 x.2.2.2) ∧
    w.cell? ⟨b, off + k * 4, none⟩ = some (.int .u8 x.1) ∧ w.cell? ⟨b, off + k * 4 + 1, none⟩ = some (.int .u8 x.2.1) ∧ w.cell? ⟨b, off + k * 4 + 2, none⟩ = some (.int .u8 x.2.2.1) ∧ w.cell? ⟨b, off + k * 4 + 3, none⟩ = some (.int .u8 x.2.2.2) := by
  obtain ⟨h1, h3, h2⟩ := h
  subst h1
  rcases h2 with h2 | ⟨b, off, e, hb, hr⟩
  · omega
  · exact ⟨b, off, _, e, List.getElem?_eq_getElem hk, h3 _ (List.getElem_mem hk), hr k _ (List.getElem?_eq_getElem hk)⟩
/-- Where the small numbers' lists lie. -/
structure SmA where
  (sa : Option Addr) (sc : Nat) (wa : Option Addr) (wc : Nat) (ca : Option Addr) (cn cc : Nat) (ta : Option Addr) (tn tc : Nat)
structure IsSm (B : Nat) (w : World) (A : SmA) (s : Sm) : Prop where
  sats : IsSatU B w A.sa s.sats.length s.sats
  whos : IsWhoU B w A.wa s.whos.length s.whos
  cost : IsU8 B w A.ca A.cn s.cost
  time : IsU8 B w A.ta A.tn s.time
  ok : s.Ok
  sl : s.sats.length ≤ 9223372036854775807
  wl : s.whos.length ≤ 9223372036854775807
abbrev smC (A : SmA) (s : Sm) : Array Value := #[.int .u8 s.e, .int .u8 s.t, .int .u8 s.tr, .int .u8 s.b, .int .u8 s.br, .slice A.sa s.sats.length A.sc, .slice A.wa s.whos.length A.wc, .slice A.ca A.cn A.cc, .slice A.ta A.tn A.tc, .bool s.tight, .bool s.loose]
theorem IsSm.later {A : SmA} (h : IsSm B w A s) (hb : Below B w w2) : IsSm B w2 A s := ⟨h.sats.later hb, h.whos.later hb, h.cost.later hb, h.time.later hb, h.ok, h.sl, h.wl⟩
/-- Satellites, customers, as cells. -/
def encS (x : Int × Int) : List Value := [.int .i64 x.1, .int .i64 x.2]
def flatS (l : List (Int × Int)) : List Value := l.flatMap encS
def flatC (l : List Pi) : List Value := l.flatMap encP
theorem flatS_snoc (l : List (Int × Int)) (x : Int × Int) : flatS (l ++ [x]) = flatS l ++ encS x := by simp [flatS]
theorem flatC_snoc (l : List Pi) (x : Pi) : flatC (l ++ [x]) = flatC l ++ encP x := by simp [flatC]
theorem flatS_get : ∀ (l : List (Int × Int)) (k : Nat) (x : Int × Int), l[k]? = some x → (flatS l)[k * 2]? = some (.int .i64 x.1) ∧ (flatS l)[k * 2 + 1]? = some (.int .i64 x.2)
  | [], k, x, h => by simp at h
  | y :: r, 0, x, h => by
    simp at h
    subst h
    exact ⟨rfl, rfl⟩
  | y :: r, k + 1, x, h => by
    have ih := flatS_get r k x (by simpa using h)
    unfold flatS at ih ⊢
    rw [List.flatMap_cons]
    have e1 : (k + 1) * 2 = (k * 2) + 1 + 1 := by omega
    rw [e1]
    exact ih
theorem flatC_get : ∀ (l : List Pi) (k : Nat) (x : Pi), l[k]? = some x → (flatC l)[k * 4]? = some (.int .i64 x.1) ∧ (flatC l)[k * 4 + 1]? = some (.int .i64 x.2.1) ∧ (flatC l)[k * 4 + 2]? = some (.int .i64 x.2.2.1) ∧ (flatC l)[k * 4 + 3]? = some (.int .i64 x.2.2.2)
  | [], k, x, h => by simp at h
  | y :: r, 0, x, h => by
    simp at h
    subst h
    exact ⟨rfl, rfl, rfl, rfl⟩
  | y :: r, k + 1, x, h => by
    have ih := flatC_get r k x (by simpa using h)
    unfold flatC at ih ⊢
    rw [List.flatMap_cons]
    have e1 : (k + 1) * 4 = (k * 4) + 1 + 1 + 1 + 1 := by omega
    rw [e1]
    exact ih
theorem owns_sats {n cap : Nat} (h : w.ownsRow B 80 2 (.slice a n cap) n (flatS l)) (hn : l.length = n) : IsPairs w.heap.size w a n l := by
  rcases h.2 with ⟨e, h0⟩ | ⟨g, cap', cur, hv, hb, hg, _⟩
  · exact ⟨hn, .inl h0⟩
  · have hh := h
    injection hv with e1 e2 e3
    subst e1
    refine ⟨hn, .inr ⟨g, 0, rfl, (Array.getElem?_eq_some_iff.1 hg).1, fun k x hk => ?_⟩⟩
    obtain ⟨q0, q1⟩ := flatS_get l k x hk
    have c0 := World.ownsRow.cells hh (g := g) rfl _ _ q0
    have c1 := World.ownsRow.cells hh (g := g) rfl _ _ q1
    simp only [Addr.add_lit, Nat.zero_add] at c0 c1
    simp only [Nat.zero_add]
    exact ⟨c0, c1⟩
theorem owns_cus {n cap : Nat} {l : List Pi} (h : w.ownsRow B 68 4 (.slice a n cap) n (flatC l)) (hn : l.length = n) : IsPipes w.heap.size w a n l := by
  rcases h.2 with ⟨e, h0⟩ | ⟨g, cap', cur, hv, hb, hg, _⟩
  · exact ⟨hn, .inl h0⟩
  · have hh := h
    injection hv with e1 e2 e3
    subst e1
    refine ⟨hn, .inr ⟨g, 0, rfl, (Array.getElem?_eq_some_iff.1 hg).1, fun k x hk => ?_⟩⟩
    obtain ⟨q0, q1, q2, q3⟩ := flatC_get l k x hk
    have c0 := World.ownsRow.cells hh (g := g) rfl _ _ q0
    have c1 := World.ownsRow.cells hh (g := g) rfl _ _ q1
    have c2 := World.ownsRow.cells hh (g := g) rfl _ _ q2
    have c3 := World.ownsRow.cells hh (g := g) rfl _ _ q3
    simp only [Addr.add_lit, Nat.zero_add] at c0 c1 c2 c3
    simp only [Nat.zero_add]
    exact ⟨c0, c1, c2, c3⟩
end Go.Proofs.Ytmnbpnjakbihdaa
