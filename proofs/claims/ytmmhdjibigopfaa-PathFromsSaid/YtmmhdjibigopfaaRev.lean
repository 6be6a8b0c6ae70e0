/- slices.Reverse of a row of the call's own. -/
import Derived.Test.YtmmhdjibigopfaaFrom
import Derived.Sort.OwnSortedInts
namespace Go.Proofs.Ytmmhdjibigopfaa
open Go.RowKit

variable {w w1 w2 : World} {base n : Nat} {v : Value} {zs : List Int}
theorem reverse_owns (h : w.ownsRow base 3 1 v n (numsV zs)) (hn : n = zs.length) (hbig : zs.length ≤ 100000) :
    Calls Try.prog 34 #[v] w fun e w' => e = .returned (.tuple #[]) ∧ w'.ownsRow base 3 1 v zs.reverse.length (numsV zs.reverse) ∧ Mod (fun k => v.ownBlock = some k) w w' := by
  subst hn
  rcases h.2 with ⟨rfl, h0⟩ | ⟨g, cap, cur, rfl, hb, hg, hc, hm, hcs, htake⟩
  · have hz : zs = [] := List.eq_nil_of_length_eq_zero (by omega)
    subst hz
    exact (Try.slices_Reverse_int_empty none 0 w).mono fun e w' ⟨h1, h2⟩ => by subst h2; exact ⟨h1, h, Mod.refl _ _⟩
  · have hH := holds_of_blockI (ss := zs) hg (by rw [Nat.mul_one] at htake; exact htake)
    refine (Try.slices_Reverse_int g 0 cap zs w hH (by omega)).mono ?_
    rintro e w' ⟨rfl, m, rfl⟩
    have ho := ownsRow_sortedI (n := m) (os := #[]) (ts := zs.reverse) (ss := zs) (by simp) hb hg hc hm (by rw [hcs])
    have hgr := grownBy_sortedI (w := w) (g := g) (n := m) (os := #[]) zs.reverse.toArray
    rw [Go.Sort.grow_empty] at ho hgr
    refine ⟨rfl, ?_, ?_⟩
    · rw [List.length_reverse]
      exact ho
    · exact (Mod.refl _ _).grown hgr (fun k hk => .inr (by rw [← hk]; rfl))
end Go.Proofs.Ytmmhdjibigopfaa
