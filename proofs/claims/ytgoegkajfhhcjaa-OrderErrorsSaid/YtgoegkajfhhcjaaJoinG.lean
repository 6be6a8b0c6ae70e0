/- Ways that join; rows of numbers as ways. (As in XTight, XPathSpec, for laws of other packages.) -/
import Derived.Test.YtgoegkajfhhcjaaJoined
import Derived.Test.YtgoegkajfhhcjaaOwn
namespace Go.Proofs.Ytgoegkajfhhcjaa
open Go.RowKit

variable {w wr w2 : World} {base N g cap i k m len : Nat} {a : Option Addr} {ws : List Int} {l : List Ar} {x : Ar} {d : Int}
/-- A row of numbers of the call's own, as a way. -/
theorem owns_ints (h : w.ownsRow base 3 1 (.slice a m cap) ws.length (numsV ws)) : m = ws.length ∧ IsInts w.heap.size w a m ws := by
  rcases h.2 with ⟨e, h0⟩ | ⟨g, cap', cur, hv, hb, hg, _⟩
  · injection e with _ e2 _
    subst e2
    exact ⟨by omega, by omega, .inl rfl⟩
  · have hh := h
    injection hv with e1 e2 e3
    subst e1 e2 e3
    refine ⟨rfl, rfl, .inr ⟨g, 0, rfl, (Array.getElem?_eq_some_iff.1 hg).1, fun k x hk => ?_⟩⟩
    rw [Nat.zero_add]
    exact nums_cell hh hk

theorem IsArcs.get {B b off : Nat} {x : Ar} (h : IsArcs B w (some ⟨b, off, none⟩) len l) (hx : l[k]? = some x) :
    w.cell? ⟨b, off + k * 3, none⟩ = some (.int .i64 x.1) ∧ w.cell? ⟨b, off + k * 3 + 1, none⟩ = some (.int .i64 x.2.1) ∧ w.cell? ⟨b, off + k * 3 + 2, none⟩ = some (.int .i64 x.2.2) := by
  have hk : k < len := by have := (List.getElem?_eq_some_iff.1 hx).1; have := h.1; omega
  rcases h.2 with h0 | ⟨b', off', e, _, hr⟩
  · omega
  · simp only [Option.some.injEq, Addr.mk.injEq, and_true] at e
    obtain ⟨e1, e2⟩ := e
    subst e1 e2
    exact hr k x hx
theorem join_tuple {to : Int} {p d : Int} (h : p = to) : joinV (some (p, d)) to = .tuple #[.int .i64 d, .bool true] := by simp [joinV, h]

theorem arcNo_nat (h : l[k]? = some x) : arcNo l (k : Int) = some x := by simp [arcNo, h]
section
variable {a : Int}
/-- Where a way that joins begins. -/
theorem join_first {p : Int × Int} (h : joinO l ws a 0 = some p) (hne : ws ≠ []) : ∃ (k : Nat) (x : Ar) (r : List Int), ws = (k : Int) :: r ∧ l[k]? = some x ∧ x.1 = a := by
  cases ws with
  | nil => exact absurd rfl hne
  | cons k r =>
    rw [joinO] at h
    cases hk : arcNo l k with
    | none => rw [hk] at h; cases h
    | some x =>
      rw [hk] at h
      simp only [] at h
      by_cases e : x.1 = a
      · unfold arcNo at hk
        by_cases h0 : 0 ≤ k
        · rw [if_pos h0] at hk
          exact ⟨k.toNat, x, r, by rw [Int.toNat_of_nonneg h0], hk, e⟩
        · rw [if_neg h0] at hk; cases hk
      · rw [if_neg e] at h; cases h

end
end Go.Proofs.Ytgoegkajfhhcjaa
