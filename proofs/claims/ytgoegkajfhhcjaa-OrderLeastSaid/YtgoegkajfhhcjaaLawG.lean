/- What the law's maker makes: a graph that may be. (As in XPathFroms, for laws of other packages.) -/
import Derived.Test.YtgoegkajfhhcjaaLGraph
namespace Go.Proofs.Ytgoegkajfhhcjaa
open Go.RowKit

variable {len cap N : Nat} {l : List Ar} {w : World} {a : Option Addr} {B : Nat}
theorem IsLinks.small7 (h : IsLinks B w a len l) : ∀ x ∈ l, -32768 ≤ x.2.2 ∧ x.2.2 ≤ 32767 := by
  intro x hx
  rcases h.2 with h0 | ⟨b, off, _, _, hr⟩
  · have : l = [] := List.eq_nil_of_length_eq_zero (by rw [h.1]; exact h0)
    subst this
    cases hx
  · obtain ⟨k, hk⟩ := List.getElem?_of_mem hx
    have := hr k x hk
    omega
theorem arcs_check7 (hN : 1 ≤ N) (hN8 : N ≤ 8) (hl : ∀ x ∈ l, -32768 ≤ x.2.2 ∧ x.2.2 ≤ 32767) (k : Nat) : checkV (N : Int) (arcsTo (N : Int) l k) = 0 := by
  refine checkV_zero.2 ⟨⟨by omega, by omega, Nat.le_trans (arcsTo_len _ _ _) (by omega)⟩, fun y hy => ?_⟩
  obtain ⟨x, hx, rfl⟩ := arcsTo_mem hy
  have := hl x hx
  have h1 := Int.emod_nonneg x.1 (show (N : Int) ≠ 0 by omega)
  have h2 := Int.emod_lt_of_pos x.1 (show (0 : Int) < (N : Int) by omega)
  have h3 := Int.emod_nonneg x.2.1 (show (N : Int) ≠ 0 by omega)
  have h4 := Int.emod_lt_of_pos x.2.1 (show (0 : Int) < (N : Int) by omega)
  exact okA_true.2 ⟨⟨h1, h2⟩, ⟨h3, h4⟩, by simp only [arcOf]; omega, by simp only [arcOf]; omega⟩
/-- Which graph the law makes, and where it begins. -/
theorem law_starts {n f : Int} (hn : (Lit.int .u8 n).wf = true) (hf : (Lit.int .u8 f).wf = true) : (0 ≤ n ∧ n ≤ 255) ∧ (0 ≤ f ∧ f ≤ 255) ∧ ∃ N q : Nat, 1 + n % 8 = (N : Int) ∧ 1 ≤ N ∧ N ≤ 8 ∧ f % (N : Int) = (q : Int) ∧ q < N := by
  simp [Lit.wf, IntKind.min, IntKind.max, IntKind.signed, IntKind.bits] at hn hf
  refine ⟨hn, hf, (1 + n % 8).toNat, (f % (((1 + n % 8).toNat : Nat) : Int)).toNat, by omega, by omega, by omega, ?_, ?_⟩
  · have := Int.emod_nonneg f (show ((((1 + n % 8).toNat : Nat) : Int)) ≠ 0 by omega)
    omega
  · have h1 := Int.emod_nonneg f (show ((((1 + n % 8).toNat : Nat) : Int)) ≠ 0 by omega)
    have h2 := Int.emod_lt_of_pos f (show (0 : Int) < (((1 + n % 8).toNat : Nat) : Int) by omega)
    omega

end Go.Proofs.Ytgoegkajfhhcjaa
