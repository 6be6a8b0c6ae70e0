/- Which nodes are full: in rows by height. -/
import Derived.Test.YtifhapmblofmkaaWFill
namespace Go.Proofs.Ytifhapmblofmkaa
open Go.RowKit

variable {w wr w2 w4 : World} {E : Env} {fl st st2 : Nat → Int} {hi nx hi2 nx2 : Nat → Nat} {mn mn2 : Nat → Int} {fv : Nat → Value} {Q : Nat → List Nat} {top m : Int} {N g c u v : Nat} {a : La}
theorem nodup_le1 : ∀ (N : Nat) (o : List Nat), o.Nodup → (∀ i ∈ o, i < N) → o.length ≤ N
  | 0, o, _, h => by
    have : o = [] := List.eq_nil_iff_forall_not_mem.2 (fun i hi => by have := h i hi; omega)
    subst this
    exact Nat.le_refl _
  | N + 1, o, hn, h => by
    have hn2 : (o.erase N).Nodup := hn.erase N
    have h1 := nodup_le1 N (o.erase N) hn2 (fun i hi => by
      have hm := (hn.mem_erase_iff.1 hi)
      have := h i hm.2
      omega)
    by_cases hN : N ∈ o
    · have hl := List.length_erase_of_mem hN
      have hpos : 0 < o.length := List.length_pos_of_mem hN
      omega
    · rw [List.erase_of_not_mem hN] at h1
      omega
/-- Each node at which something stays, but the first and the last one, and u, is in one row, up to top. -/
structure Que (E : Env) (st : Nat → Int) (Q : Nat → List Nat) (top : Int) (u : Nat) : Prop where
  nd : ∀ h, h < 2 * E.N → (Q h).Nodup
  one : ∀ h h2 i, h < 2 * E.N → h2 < 2 * E.N → i ∈ Q h → i ∈ Q h2 → h = h2
  mem : ∀ h, h < 2 * E.N → ∀ i ∈ Q h, i < E.N ∧ 0 < st i ∧ i ≠ E.s ∧ i ≠ E.t ∧ i ≠ u
  all : ∀ i, i < E.N → i ≠ E.s → i ≠ E.t → i ≠ u → 0 < st i → ∃ h, h < 2 * E.N ∧ (h : Int) ≤ top ∧ i ∈ Q h
  lo : -1 ≤ top
  hiT : top < 2 * (E.N : Int)
theorem Que.len (h : Que E st Q top u) {g : Nat} (hg : g < 2 * E.N) : (Q g).length ≤ E.N := nodup_le1 _ _ (h.nd g hg) (fun i hi => (h.mem g hg i hi).1)
/-- What comes to v leaves the rows as they are, where something stayed there, or where all may stay. -/
theorem Que.more (h : Que E st Q top u) (he : ∀ i, i ≠ u → i ≠ v → st2 i = st i) (hp : v ≠ E.s → 0 < st2 v) (hv : v = E.s ∨ v = E.t ∨ 0 < st v) : Que E st2 Q top u := by
  refine ⟨h.nd, h.one, fun g hg i hi => ?_, fun i hi h1 h2 h3 h4 => ?_, h.lo, h.hiT⟩
  · obtain ⟨a, b, c, d, e⟩ := h.mem g hg i hi
    refine ⟨a, ?_, c, d, e⟩
    by_cases ev : i = v
    · subst ev; exact hp c
    · rw [he i e ev]; exact b
  · refine h.all i hi h1 h2 h3 ?_
    by_cases ev : i = v
    · subst ev
      rcases hv with hv | hv | hv
      · exact absurd hv h1
      · exact absurd hv h2
      · exact hv
    · rw [← he i h3 ev]; exact h4
/-- v becomes full. -/
theorem Que.fill (h : Que E st Q top u) (he : ∀ i, i ≠ u → i ≠ v → st2 i = st i) (hp : 0 < st2 v) (hv : v < E.N) (hz : st v = 0) (hvs : v ≠ E.s) (hvt : v ≠ E.t) (hvu : v ≠ u) {k : Nat} (hk : k < 2 * E.N) :
    Que E st2 (fun j => if j = k then Q k ++ [v] else Q j) (max top (k : Int)) u := by
  have no : ∀ g, g < 2 * E.N → v ∉ Q g := fun g hg hm => by have := (h.mem g hg v hm).2.1; omega
  have mem : ∀ g i, i ∈ (if g = k then Q k ++ [v] else Q g) → (i ∈ Q g ∨ (i = v ∧ g = k)) := fun g i hi => by
    by_cases e : g = k
    · rw [if_pos e, List.mem_append] at hi
      subst e
      rcases hi with hi | hi
      · exact .inl hi
      · exact .inr ⟨by simpa using hi, rfl⟩
    · rw [if_neg e] at hi; exact .inl hi
  have h1 := h.lo
  have h2 := h.hiT
  refine ⟨fun g hg => ?_, fun g g2 i hg hg2 hi hi2 => ?_, fun g hg i hi => ?_, fun i hi a1 a2 a3 a4 => ?_, by omega, by omega⟩
  · by_cases e : g = k
    · subst e
      simp only [if_true]
      rw [List.nodup_append]
      refine ⟨h.nd g hg, by simp, fun a ha b hb => ?_⟩
      simp at hb
      subst hb
      intro e
      subst e
      exact no g hg ha
    · simp only [e, if_false]; exact h.nd g hg
  · rcases mem g i hi with m1 | ⟨m1, m2⟩
    · rcases mem g2 i hi2 with n1 | ⟨n1, n2⟩
      · exact h.one g g2 i hg hg2 m1 n1
      · subst n1; exact absurd m1 (no g hg)
    · rcases mem g2 i hi2 with n1 | ⟨n1, n2⟩
      · subst m1; exact absurd n1 (no g2 hg2)
      · omega
  · rcases mem g i hi with m1 | ⟨m1, _⟩
    · obtain ⟨a, b, c, d, e⟩ := h.mem g hg i m1
      refine ⟨a, ?_, c, d, e⟩
      rw [he i e (fun e2 => by subst e2; exact no g hg m1)]
      exact b
    · subst m1
      exact ⟨hv, hp, hvs, hvt, hvu⟩
  · by_cases e : i = v
    · subst e
      exact ⟨k, hk, by omega, by simp⟩
    · obtain ⟨g, b1, b2, b3⟩ := h.all i hi a1 a2 a3 (by rw [← he i a3 e]; exact a4)
      refine ⟨g, b1, by omega, ?_⟩
      by_cases e2 : g = k
      · subst e2; simp [b3]
      · simp [e2, b3]
/-- The last of the highest row is taken. -/
theorem Que.take (h : Que E st Q top E.N) {k : Nat} {q : List Nat} (hk : k < 2 * E.N) (hq : Q k = q ++ [u]) (hte : top = (k : Int)) : Que E st (fun j => if j = k then q else Q j) top u ∧ u < E.N ∧ 0 < st u ∧ u ≠ E.s ∧ u ≠ E.t := by
  have hu : u ∈ Q k := by rw [hq]; simp
  obtain ⟨c1, c2, c3, c4, _⟩ := h.mem k hk u hu
  have hnd := h.nd k hk
  rw [hq, List.nodup_append] at hnd
  have sub : ∀ g i, i ∈ (if g = k then q else Q g) → i ∈ Q g ∧ (g = k → i ∈ q) := fun g i hi => by
    by_cases e : g = k
    · rw [if_pos e] at hi
      subst e
      exact ⟨by rw [hq]; simp [hi], fun _ => hi⟩
    · rw [if_neg e] at hi; exact ⟨hi, fun e2 => absurd e2 e⟩
  refine ⟨⟨fun g hg => ?_, fun g g2 i hg hg2 hi hi2 => h.one g g2 i hg hg2 (sub g i hi).1 (sub g2 i hi2).1, fun g hg i hi => ?_, fun i hi a1 a2 a3 a4 => ?_, h.lo, h.hiT⟩, c1, c2, c3, c4⟩
  · by_cases e : g = k
    · simp only [e, if_true]; exact hnd.1
    · simp only [e, if_false]; exact h.nd g hg
  · obtain ⟨a, b, c, d, _⟩ := h.mem g hg i (sub g i hi).1
    refine ⟨a, b, c, d, fun e => ?_⟩
    subst e
    have e2 := h.one g k i hg hk (sub g i hi).1 hu
    exact hnd.2.2 i ((sub g i hi).2 e2) i (by simp) rfl
  · obtain ⟨g, b1, b2, b3⟩ := h.all i hi a1 a2 (by omega) a4
    refine ⟨g, b1, b2, ?_⟩
    by_cases e2 : g = k
    · subst e2
      rw [hq, List.mem_append] at b3
      rcases b3 with b3 | b3
      · simp [b3]
      · exact absurd (by simpa using b3) a3
    · simp [e2, b3]
/-- The highest row is empty. -/
theorem Que.down (h : Que E st Q top u) {k : Nat} (hq : Q k = []) (hte : top = (k : Int)) : Que E st Q (top - 1) u := by
  have := h.hiT
  refine ⟨h.nd, h.one, h.mem, fun i hi a1 a2 a3 a4 => ?_, by omega, by omega⟩
  obtain ⟨g, b1, b2, b3⟩ := h.all i hi a1 a2 a3 a4
  refine ⟨g, b1, ?_, b3⟩
  by_cases e : g = k
  · subst e; rw [hq] at b3; cases b3
  · omega
/-- u is empty: none is left out. -/
theorem Que.done (h : Que E st Q top u) (hz : st u ≤ 0) : Que E st Q top E.N :=
  ⟨h.nd, h.one, fun g hg i hi => by obtain ⟨a, b, c, d, _⟩ := h.mem g hg i hi; exact ⟨a, b, c, d, by omega⟩, fun i hi a1 a2 _ a4 => h.all i hi a1 a2 (fun e => by subst e; omega) a4, h.lo, h.hiT⟩

/-! ### What stays -/
def exc (E : Env) (fl : Nat → Int) : Nat → Int := fun i => netTo E.l fl (i : Int) E.l.length
theorem Wk.congrStays (h : Wk E fl st hi nx mn fv Q top wr) (e : ∀ i, i < E.N → st i = st2 i) : Wk E fl st2 hi nx mn fv Q top wr :=
  ⟨h.pipes, h.lanes, h.work, h.flow, h.stays.congr (fun g hg => by rw [e g hg]), h.high, h.many, h.next, h.full, h.rows, h.apart, h.ord, h.size⟩
theorem Wk.congrFlow {fl2 : Nat → Int} (h : Wk E fl st hi nx mn fv Q top wr) (e : ∀ i, i < E.len → fl i = fl2 i) : Wk E fl2 st hi nx mn fv Q top wr :=
  ⟨h.pipes, h.lanes, h.work, h.flow.congr (fun g hg => by rw [e g hg]), h.stays, h.high, h.many, h.next, h.full, h.rows, h.apart, h.ord, h.size⟩
theorem exc_bound (hc : Caps E fl) (hl : E.l.length ≤ 20000) (i : Nat) : -21990232555520000 ≤ exc E fl i ∧ exc E fl i ≤ 21990232555520000 := by
  have h := sumP_bound (l := E.l) (g := brings fl (i : Int)) (B := 1099511627776) (by omega) (fun k x hx => by
    have := hc k x hx
    unfold brings
    split <;> split <;> omega) E.l.length
  unfold exc netTo
  omega
theorem exc_push (hn : E.Net) (hu : u < E.N) (ha : a ∈ E.L u) (i : Nat) : exc E (push fl a m) i = exc E fl i + (if i = a.2.1 then m else 0) - (if i = u then m else 0) := netTo_push hn.lanes hu ha m i
end Go.Proofs.Ytifhapmblofmkaa
