/- Joined: ReachT, Plain, ReachSpec. -/
import Derived.Test.YtchdpapaojkbhaaBase1
import Derived.Test.YtchdpapaojkbhaaFarT
import Derived.WalkKit
section
/- What layer 14 speaks of: the shortest times, by their words. No Go in sight. -/
namespace Go.Proofs.Ytchdpapaojkbhaa

variable {x : Ins} {s c i k N : Nat}
/-- Times between nodes. -/
def tmI (x : Ins) (i k : Nat) : Int := (x.time.getD i []).getD k 0
/-- Stays, by nodes. -/
def styI (x : Ins) (i : Nat) : Int := if i < 1 + x.sats.length then 0 else (x.cus.getD (i - (1 + x.sats.length)) (0, 0, 0, 0)).2.2.2
/-- The depot and the satellites; a satellite and the customers. -/
def inS (x : Ins) (i : Nat) : Bool := decide (i < 1 + x.sats.length)
def inC (x : Ins) (s i : Nat) : Bool := decide (i = 1 + s) || decide (1 + x.sats.length ≤ i)
def arcS (x : Ins) : Nat → Nat → Option Int := arcW (tmI x) (fun _ => 0) (inS x) x.nodes
def arcC (x : Ins) (s : Nat) : Nat → Nat → Option Int := arcW (tmI x) (styI x) (inC x s) x.nodes
/-- The soonest that bikes may leave each satellite. -/
def ReadyOf (x : Ins) (l : List Int) : Prop := l.length = x.sats.length ∧ ∀ s, s < x.sats.length → ∃ d, LeastW (arcS x) 0 (1 + s) d ∧ l[s]? = some (d + (x.sats.getD s (0, 0)).2)
def OutOf (x : Ins) (s : Nat) (l : List Int) : Prop := l.length = x.cus.length ∧ ∀ c, c < x.cus.length → ∃ d, LeastW (arcC x s) (1 + s) (1 + x.sats.length + c) d ∧ l[c]? = some d
def BackOf (x : Ins) (s : Nat) (l : List Int) : Prop := l.length = x.cus.length ∧ ∀ c, c < x.cus.length → ∃ d, LeastW (arcC x s) (1 + x.sats.length + c) (1 + s) d ∧ l[c]? = some d
theorem list_same {l m : List Int} {n : Nat} (h1 : l.length = n) (h2 : m.length = n) (h : ∀ k, k < n → l[k]? = m[k]?) : l = m := by
  apply List.ext_getElem?
  intro k
  by_cases hk : k < n
  · exact h k hk
  · rw [List.getElem?_eq_none (by omega), List.getElem?_eq_none (by omega)]
theorem ReadyOf.unique {l m : List Int} (h : ReadyOf x l) (h2 : ReadyOf x m) : l = m := list_same h.1 h2.1 fun k hk => by
  obtain ⟨d, h3, h4⟩ := h.2 k hk
  obtain ⟨e, h5, h6⟩ := h2.2 k hk
  rw [h4, h6, h3.unique h5]
theorem OutOf.unique {l m : List Int} (h : OutOf x s l) (h2 : OutOf x s m) : l = m := list_same h.1 h2.1 fun k hk => by
  obtain ⟨d, h3, h4⟩ := h.2 k hk
  obtain ⟨e, h5, h6⟩ := h2.2 k hk
  rw [h4, h6, h3.unique h5]
theorem BackOf.unique {l m : List Int} (h : BackOf x s l) (h2 : BackOf x s m) : l = m := list_same h.1 h2.1 fun k hk => by
  obtain ⟨d, h3, h4⟩ := h.2 k hk
  obtain ⟨e, h5, h6⟩ := h2.2 k hk
  rw [h4, h6, h3.unique h5]
theorem May.tm_in (h : May x) (hi : i < x.nodes) (hk : k < x.nodes) : 0 ≤ tmI x i k ∧ tmI x i k ≤ 1000000000 := by
  unfold tmI
  have hl : i < x.time.length := by rw [h.lt]; exact hi
  obtain ⟨h1, h2⟩ := h.time i x.time[i] (List.getElem?_eq_getElem hl)
  have hk2 : k < x.time[i].length := by rw [h1]; exact hk
  have h3 := h2 k x.time[i][k] (List.getElem?_eq_getElem hk2)
  simp [elB, inB_] at h3
  simp only [List.getD, List.getElem?_eq_getElem hl, Option.getD_some, List.getElem?_eq_getElem hk2]
  omega
theorem May.sty_in (h : May x) (hi : i < x.nodes) : 0 ≤ styI x i ∧ styI x i ≤ 1000000000 := by
  unfold styI
  split
  · omega
  · rename_i hn
    unfold Ins.nodes at hi
    have hl : i - (1 + x.sats.length) < x.cus.length := by omega
    have h1 := h.cus x.cus[i - (1 + x.sats.length)] (List.getElem_mem hl)
    simp [cusB, inB_] at h1
    simp only [List.getD, List.getElem?_eq_getElem hl, Option.getD_some]
    omega
theorem May.hold_in (h : May x) {p : Int × Int} (hs : x.sats[s]? = some p) : 0 ≤ p.2 ∧ p.2 ≤ 1000000000 := by
  have h1 := h.sats p (List.mem_of_getElem? hs)
  simp [satB, inB_] at h1
  omega
/-- The times as rows. -/
theorem May.time_rows (h : May x) : x.time = (List.range x.nodes).map (fun i => (List.range x.nodes).map (tmI x i)) := by
  apply List.ext_getElem?
  intro i
  by_cases hi : i < x.nodes
  · have hl : i < x.time.length := by rw [h.lt]; exact hi
    have h1 := (h.time i x.time[i] (List.getElem?_eq_getElem hl)).1
    rw [List.getElem?_eq_getElem hl]
    simp only [List.getElem?_map, List.getElem?_range hi, Option.map_some]
    congr 1
    apply List.ext_getElem?
    intro k
    by_cases hk : k < x.nodes
    · have hk2 : k < x.time[i].length := by rw [h1]; exact hk
      simp only [List.getElem?_map, List.getElem?_range hk, Option.map_some, List.getElem?_eq_getElem hk2, tmI, List.getD, List.getElem?_eq_getElem hl, Option.getD_some]
    · rw [List.getElem?_eq_none (by omega), List.getElem?_eq_none (by simp; omega)]
  · rw [List.getElem?_eq_none (by rw [h.lt]; omega), List.getElem?_eq_none (by simp; omega)]
/-- What one may be served by. -/
def mayI (x : Ins) (ready out back : List Int) (s c : Nat) : Bool :=
  decide ((x.cus.getD c (0, 0, 0, 0)).1 ≤ (x.sats.getD s (0, 0)).1) && decide ((x.cus.getD c (0, 0, 0, 0)).1 ≤ x.br) &&
  decide (max (ready.getD s 0 + out.getD c 0) (x.cus.getD c (0, 0, 0, 0)).2.1 ≤ (x.cus.getD c (0, 0, 0, 0)).2.2.1) &&
  decide (max (ready.getD s 0 + out.getD c 0) (x.cus.getD c (0, 0, 0, 0)).2.1 + back.getD c 0 ≤ x.en)
/-- Who may be served from where. -/
def MayOf (x : Ins) (p : Nat → Nat → Bool) : Prop := ∃ rd : List Int, ReadyOf x rd ∧ ∀ s, s < x.sats.length → ∃ ou ba : List Int, OutOf x s ou ∧ BackOf x s ba ∧ ∀ c, c < x.cus.length → p s c = mayI x rd ou ba s c
theorem MayOf.unique {p q : Nat → Nat → Bool} (h : MayOf x p) (h2 : MayOf x q) (hs : s < x.sats.length) (hc : c < x.cus.length) : p s c = q s c := by
  obtain ⟨r1, a1, a2⟩ := h
  obtain ⟨r2, c1, c2⟩ := h2
  obtain ⟨o1, b1, e1, e2, e3⟩ := a2 s hs
  obtain ⟨o2, b2, f1, f2, f3⟩ := c2 s hs
  rw [e3 c hc, f3 c hc, a1.unique c1, e1.unique f1, e2.unique f2]
/-- No way is longer than the arcs, if there is one. -/
theorem LeastW.le_arc {W : Nat → Nat → Option Int} {d e : Int} (h : LeastW W i k d) (he : W i k = some e) : d ≤ e := h.2 _ _ (WayF.one he)
theorem OutOf.in_ {l : List Int} (hm : May x) (h : OutOf x s l) (hs : s < x.sats.length) {v : Int} {c : Nat} (hv : l[c]? = some v) : 0 ≤ v ∧ v ≤ 2000000000 := by
  have hc : c < x.cus.length := by have := (List.getElem?_eq_some_iff.1 hv).1; rw [h.1] at this; exact this
  obtain ⟨d, h1, h2⟩ := h.2 c hc
  rw [hv] at h2
  injection h2 with h2
  subst h2
  have hn : x.nodes = 1 + x.sats.length + x.cus.length := rfl
  have ha : arcC x s (1 + s) (1 + x.sats.length + c) = some (styI x (1 + s) + tmI x (1 + s) (1 + x.sats.length + c)) := arcW_some.2 ⟨⟨by omega, by omega, by omega, by simp [inC], by simp [inC]⟩, rfl⟩
  have h3 := h1.le_arc ha
  have h4 := hm.tm_in (i := 1 + s) (k := 1 + x.sats.length + c) (by omega) (by omega)
  have h5 := hm.sty_in (i := 1 + s) (by omega)
  obtain ⟨m, hw⟩ := h1.1
  have h6 := hw.pos (arcW_good (fun i k hi hk => (hm.tm_in hi hk).1) (fun i hi => (hm.sty_in hi).1))
  omega
theorem BackOf.in_ {l : List Int} (hm : May x) (h : BackOf x s l) (hs : s < x.sats.length) {v : Int} {c : Nat} (hv : l[c]? = some v) : 0 ≤ v ∧ v ≤ 2000000000 := by
  have hc : c < x.cus.length := by have := (List.getElem?_eq_some_iff.1 hv).1; rw [h.1] at this; exact this
  obtain ⟨d, h1, h2⟩ := h.2 c hc
  rw [hv] at h2
  injection h2 with h2
  subst h2
  have hn : x.nodes = 1 + x.sats.length + x.cus.length := rfl
  have ha : arcC x s (1 + x.sats.length + c) (1 + s) = some (styI x (1 + x.sats.length + c) + tmI x (1 + x.sats.length + c) (1 + s)) := arcW_some.2 ⟨⟨by omega, by omega, by omega, by simp [inC], by simp [inC]⟩, rfl⟩
  have h3 := h1.le_arc ha
  have h4 := hm.tm_in (i := 1 + x.sats.length + c) (k := 1 + s) (by omega) (by omega)
  have h5 := hm.sty_in (i := 1 + x.sats.length + c) (by omega)
  obtain ⟨m, hw⟩ := h1.1
  have h6 := hw.pos (arcW_good (fun i k hi hk => (hm.tm_in hi hk).1) (fun i hi => (hm.sty_in hi).1))
  omega
theorem ReadyOf.in_ {l : List Int} (hm : May x) (h : ReadyOf x l) {v : Int} {s : Nat} (hv : l[s]? = some v) : 0 ≤ v ∧ v ≤ 2000000000 := by
  have hs : s < x.sats.length := by have := (List.getElem?_eq_some_iff.1 hv).1; rw [h.1] at this; exact this
  obtain ⟨d, h1, h2⟩ := h.2 s hs
  rw [hv] at h2
  injection h2 with h2
  subst h2
  have hn : x.nodes = 1 + x.sats.length + x.cus.length := rfl
  have ha : arcS x 0 (1 + s) = some (0 + tmI x 0 (1 + s)) := arcW_some.2 ⟨⟨by omega, by omega, by omega, by simp [inS]; omega, by simp [inS]; omega⟩, rfl⟩
  have h3 := h1.le_arc ha
  have h4 := hm.tm_in (i := 0) (k := 1 + s) (by omega) (by omega)
  have h5 := hm.hold_in (s := s) (List.getElem?_eq_getElem hs)
  obtain ⟨m, hw⟩ := h1.1
  have h6 := hw.pos (arcW_good (fun i k hi hk => (hm.tm_in hi hk).1) (fun i hi => Int.le_refl _))
  simp only [List.getD, List.getElem?_eq_getElem hs, Option.getD_some]
  omega
end Go.Proofs.Ytchdpapaojkbhaa
end
section
/- Plain facts on numbers of 64 bits: no Go in sight. -/
namespace Go.Proofs.Ytchdpapaojkbhaa
open Go.RowKit

theorem and32 (a : Int) : bits .and .i64 a 4294967295 = a % 4294967296 := by
  show IntKind.i64.wrap ((BitVec.ofInt 64 a &&& BitVec.ofInt 64 4294967295).toNat : Int) = _
  have h2 : (BitVec.ofInt 64 4294967295).toNat = 2 ^ 32 - 1 := by decide
  have h1 : (BitVec.ofInt 64 a).toNat = (a % 18446744073709551616).toNat := by
    rw [BitVec.toNat_ofInt]; rfl
  rw [BitVec.toNat_and, h2, h1, Nat.and_two_pow_sub_one_eq_mod, IntKind.wrap_i64]
  omega

/-- A number that int64 holds. -/
def Fits (n : Int) : Prop := -9223372036854775808 ≤ n ∧ n ≤ 9223372036854775807
instance (n : Int) : Decidable (Fits n) := inferInstanceAs (Decidable (_ ∧ _))
theorem fits_of_wf {n : Int} (h : (Lit.int .i64 n).wf = true) : Fits n := by
  simp [Lit.wf, IntKind.min, IntKind.max, IntKind.signed, IntKind.bits] at h
  unfold Fits; omega
theorem wrap_fits (n : Int) : Fits (wrap64 n) := by unfold Fits wrap64; omega
theorem wrap_of_fits {n : Int} (h : Fits n) : wrap64 n = n := IntWalk.wrap64_in n h

theorem ret_int {k : IntKind} {a b : Int} (h : a = b) : Ending.returned (.int k a) = .returned (.int k b) := by rw [h]
theorem ret_bool {p q : Bool} (h : p = q) : Ending.returned (.bool p) = .returned (.bool q) := by rw [h]
theorem ret_pair {k : IntKind} {x y : Int} {p q : Bool} (h : x = y) (g : p = q) : Ending.returned (.tuple #[.int k x, .bool p]) = .returned (.tuple #[.int k y, .bool q]) := by rw [h, g]

/-- What a sum or product answers: itself, if int64 holds it, else 0. -/
def fitV (n : Int) : Int := if Fits n then n else 0
def fitOk (n : Int) : Bool := decide (Fits n)
theorem fitV_fits (n : Int) : Fits (fitV n) := by unfold fitV; split; assumption; unfold Fits; omega
theorem fitV_yes {n : Int} (h : Fits n) : fitV n = n := if_pos h
theorem fitV_no {n : Int} (h : ¬ Fits n) : fitV n = 0 := if_neg h
theorem fitOk_yes {n : Int} (h : Fits n) : fitOk n = true := decide_eq_true h
theorem fitOk_no {n : Int} (h : ¬ Fits n) : fitOk n = false := decide_eq_false h

/-! ### Products -/
theorem natAbs_lt_of_tmod (x b : Int) (hb : b ≠ 0) : (x.tmod b).natAbs < b.natAbs := by
  rw [Int.natAbs_tmod]; exact Nat.mod_lt _ (by omega)
/-- The product went round, and dividing back still gives a: only the least number by -1. -/
theorem mul_back (a b : Int) (ha : Fits a) (hb : Fits b) (hb0 : b ≠ 0) (hn : ¬ Fits (a * b)) (hq : wrap64 ((wrap64 (a * b)).tdiv b) = a) : b = -1 ∧ a = -9223372036854775808 := by
  unfold Fits at ha hb
  have hP := wrap_fits (a * b)
  have hc : ∃ k : Int, wrap64 (a * b) = a * b + k * 18446744073709551616 := by
    refine ⟨-((a * b + 9223372036854775808) / 18446744073709551616), ?_⟩
    unfold wrap64; omega
  obtain ⟨k, hk⟩ := hc
  by_cases h1 : b = -1
  · subst h1
    refine ⟨rfl, ?_⟩
    unfold Fits at hn
    omega
  · exfalso
    have hd : Fits ((wrap64 (a * b)).tdiv b) := by
      have h2 : ((wrap64 (a * b)).tdiv b).natAbs = (wrap64 (a * b)).natAbs / b.natAbs := Int.natAbs_tdiv (wrap64 (a * b)) b
      have h3 : (wrap64 (a * b)).natAbs / b.natAbs ≤ (wrap64 (a * b)).natAbs := Nat.div_le_self _ _
      unfold Fits at hP ⊢
      by_cases h4 : b = 1
      · subst h4; simp only [Int.tdiv_one]; exact hP
      · have h5 : (wrap64 (a * b)).natAbs / b.natAbs ≤ (wrap64 (a * b)).natAbs / 2 := Nat.div_le_div_left (by omega) (by omega)
        omega
    rw [wrap_of_fits hd] at hq
    have h6 := Int.mul_tdiv_add_tmod (wrap64 (a * b)) b
    rw [hq] at h6
    have h7 := natAbs_lt_of_tmod (wrap64 (a * b)) b hb0
    rw [Int.mul_comm b a] at h6
    have h8 : (wrap64 (a * b)).tmod b = k * 18446744073709551616 := by omega
    have h9 : k = 0 := by omega
    subst h9
    simp at hk
    rw [hk] at hP
    exact hn hP
theorem mul_div (a b : Int) (hb0 : b ≠ 0) : (a * b).tdiv b = a := Int.mul_tdiv_cancel a hb0

/-- The tests of Mul: the quotient, the sign. -/
theorem mul_yes (a b : Int) (ha0 : a ≠ 0) (hb0 : b ≠ 0) (ha : Fits a) (hf : Fits (a * b)) : wrap64 ((wrap64 (a * b)).tdiv b) = a ∧ (!decide (wrap64 (a * b) < 0) == !decide (a < 0) == decide (b < 0)) = false := by
  rw [wrap_of_fits hf, mul_div a b hb0, wrap_of_fits ha]
  refine ⟨rfl, ?_⟩
  rcases Int.lt_or_gt_of_ne ha0 with h1 | h1 <;> rcases Int.lt_or_gt_of_ne hb0 with h2 | h2
  · have := Int.mul_pos_of_neg_of_neg h1 h2
    have c : ¬ a * b < 0 := by omega
    simp [h1, h2, c]
  · have c := Int.mul_neg_of_neg_of_pos h1 h2
    have d : ¬ b < 0 := by omega
    simp [h1, d, c]
  · have c := Int.mul_neg_of_pos_of_neg h1 h2
    have d : ¬ a < 0 := by omega
    simp [h2, d, c]
  · have := Int.mul_pos h1 h2
    have c : ¬ a * b < 0 := by omega
    have d : ¬ a < 0 := by omega
    have e : ¬ b < 0 := by omega
    simp [c, d, e]
theorem mul_no (a b : Int) (hb0 : b ≠ 0) (ha : Fits a) (hb : Fits b) (hf : ¬ Fits (a * b)) (hq : wrap64 ((wrap64 (a * b)).tdiv b) = a) : (!decide (wrap64 (a * b) < 0) == !decide (a < 0) == decide (b < 0)) = true := by
  obtain ⟨rfl, rfl⟩ := mul_back a b ha hb hb0 hf hq
  have h : wrap64 (-9223372036854775808 * -1) = -9223372036854775808 := by unfold wrap64; rfl
  rw [h]
  simp
theorem fits_zero : Fits 0 := by unfold Fits; omega
theorem rmul_no (a b : Int) (hb0 : b ≠ 0) (ha : Fits a) (hb : Fits b) (h1 : ¬ (b = -1 ∧ a = -9223372036854775808)) (hq : wrap64 ((wrap64 (a * b)).tdiv b) = a) : Fits (a * b) := by
  by_cases hf : Fits (a * b)
  · exact hf
  · exact absurd (mul_back a b ha hb hb0 hf hq) h1
theorem neg_back (b : Int) (hb : Fits b) (hb0 : b ≠ 0) (h : b ≠ -9223372036854775808) : wrap64 ((wrap64 (-b)).tdiv b) = -1 := by
  unfold Fits at hb
  rw [IntWalk.wrap64_in (-b) (by omega), Int.neg_tdiv, Int.tdiv_self hb0]
  unfold wrap64; rfl
theorem neg_neg_back (a : Int) (ha : Fits a) : wrap64 (-wrap64 (-a)) = a := by
  unfold Fits at ha
  unfold wrap64; omega
theorem not_fits_edge : ¬ Fits (-9223372036854775808 * -1) := by unfold Fits; omega
theorem not_fits_edge' : ¬ Fits (-1 * -9223372036854775808) := by unfold Fits; omega
end Go.Proofs.Ytchdpapaojkbhaa
end
section
/- What the laws ask of package reach. -/
namespace Go.Proofs.Ytchdpapaojkbhaa
open Go.RowKit

/-- Sets that came in. -/
def IsSets (B : Nat) (w : World) (a : Option Addr) (len : Nat) (zs : List Nat) : Prop := zs.length = len ∧ (∀ z ∈ zs, z < 18446744073709551616) ∧ (len = 0 ∨ ∃ b off, a = some ⟨b, off, none⟩ ∧ b < B ∧ ∀ (j : Nat) (z : Nat), zs[j]? = some z → w.cell? ⟨b, off + j, none⟩ = some (.int .u64 (z : Int)))
theorem IsSets.later {B : Nat} {w w2 : World} {a : Option Addr} {len : Nat} {zs : List Nat} (h : IsSets B w a len zs) (hb : Below B w w2) : IsSets B w2 a len zs := ⟨h.1, h.2.1, by
  rcases h.2.2 with h | ⟨b, off, e, h1, h2⟩
  · exact .inl h
  · exact .inr ⟨b, off, e, h1, fun j z hz => (hb.cell (p := ⟨b, off + j, none⟩) h1).trans (h2 j z hz)⟩⟩
theorem IsSets.mono {B B2 : Nat} {w : World} {a : Option Addr} {len : Nat} {zs : List Nat} (h : IsSets B w a len zs) (hb : B ≤ B2) : IsSets B2 w a len zs := ⟨h.1, h.2.1, by
  rcases h.2.2 with h | ⟨b, off, e, h1, h2⟩
  · exact .inl h
  · exact .inr ⟨b, off, e, by omega, h2⟩⟩
/-- A slice of numbers comes back. -/
def Nums (w : World) (P : List Int → Prop) (e : Ending) (w' : World) : Prop := ∃ (l : List Int) (a : Option Addr) (c : Nat), e = .returned (.slice a l.length c) ∧ IsNums w'.heap.size w' a l.length l ∧ P l ∧ Below w.heap.size w w'
/-- An empty one does. -/
def Empty (w : World) (e : Ending) (w' : World) : Prop := ∃ (a : Option Addr) (c : Nat), e = .returned (.slice a 0 c) ∧ Below w.heap.size w w'
/-- Who may be served, as sets. -/
def SetsOf (x : Ins) (zs : List Nat) : Prop := zs.length = x.sats.length ∧ ∃ p, MayOf x p ∧ ∀ s z, zs[s]? = some z → ∀ c, c < 64 → z.testBit c = (decide (c < x.cus.length) && p s c)
structure ReachSpec : Prop where
  ready : ∀ (A : InA) (x : Ins) (w : World), IsIns w.heap.size w A x → May x → Calls Try.prog 11 #[.agg (insC A x)] w (Nums w (ReadyOf x))
  out : ∀ (A : InA) (x : Ins) (s : Nat) (w : World), IsIns w.heap.size w A x → May x → s < x.sats.length → Calls Try.prog 14 #[.agg (insC A x), .int .i64 (s : Int)] w (Nums w (OutOf x s))
  back : ∀ (A : InA) (x : Ins) (s : Nat) (w : World), IsIns w.heap.size w A x → May x → s < x.sats.length → Calls Try.prog 15 #[.agg (insC A x), .int .i64 (s : Int)] w (Nums w (BackOf x s))
  mays : ∀ (A : InA) (x : Ins) (w : World), IsIns w.heap.size w A x → May x → Calls Try.prog 16 #[.agg (insC A x)] w fun e w' => ∃ (zs : List Nat) (a : Option Addr) (c : Nat), e = .returned (.slice a zs.length c) ∧ IsSets w'.heap.size w' a zs.length zs ∧ SetsOf x zs ∧ Below w.heap.size w w'
  readyNo : ∀ (A : InA) (x : Ins) (w : World), IsIns w.heap.size w A x → x.cost.length ≤ 9223372036854775807 → x.time.length ≤ 9223372036854775807 → instErr x ≠ 0 → Calls Try.prog 11 #[.agg (insC A x)] w (Empty w)
  outNo : ∀ (A : InA) (x : Ins) (s : Int) (w : World), IsIns w.heap.size w A x → x.cost.length ≤ 9223372036854775807 → x.time.length ≤ 9223372036854775807 → Fits s → (instErr x ≠ 0 ∨ s < 0 ∨ (x.sats.length : Int) ≤ s) → Calls Try.prog 14 #[.agg (insC A x), .int .i64 s] w (Empty w)
  backNo : ∀ (A : InA) (x : Ins) (s : Int) (w : World), IsIns w.heap.size w A x → x.cost.length ≤ 9223372036854775807 → x.time.length ≤ 9223372036854775807 → Fits s → (instErr x ≠ 0 ∨ s < 0 ∨ (x.sats.length : Int) ≤ s) → Calls Try.prog 15 #[.agg (insC A x), .int .i64 s] w (Empty w)
  maysNo : ∀ (A : InA) (x : Ins) (w : World), IsIns w.heap.size w A x → x.cost.length ≤ 9223372036854775807 → x.time.length ≤ 9223372036854775807 → instErr x ≠ 0 → Calls Try.prog 16 #[.agg (insC A x)] w (Empty w)
end Go.Proofs.Ytchdpapaojkbhaa
end
