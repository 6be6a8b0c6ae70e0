/- The law's two nodes. -/
import Derived.Test.YtifhapmblofmkaaPipes
import Derived.BigQuiet
import Derived.Deep.QuietTactic
namespace Go.Proofs.Ytifhapmblofmkaa
open Go.RowKit

set_option maxHeartbeats 2000000 in
theorem ends_law (N : Nat) (hN : 2 ≤ N) (hN6 : N ≤ 6) (p q : Int) (hp : 0 ≤ p ∧ p ≤ 255) (hq : 0 ≤ q ∧ q ≤ 255) (a : Option Addr) (len cap : Nat) (w : World) :
    Calls Try.prog 10 #[.agg #[.int .i64 (N : Int), .slice a len cap], .int .u8 p, .int .u8 q] w fun e w' => Below w.heap.size w w' ∧ ∃ s t : Nat, e = .returned (.tuple #[.int .i64 (s : Int), .int .i64 (t : Int)]) ∧ s < N ∧ t < N ∧ s ≠ t := by
  have HG := Lib.hid (NBox.make (Below.refl _ w) (N : Int) a len cap)
  obtain ⟨hp1, hp2⟩ := hp
  obtain ⟨hq1, hq2⟩ := hq
  have hN0 : ¬ (N : Int) = 0 := by omega
  have hNb : ((N : Int) == 0) = false := by simp; omega
  have hM0 : ¬ (N : Int) - 1 = 0 := by omega
  have hMb : ((N : Int) - 1 == 0) = false := by simp; omega
  obtain ⟨s, hs⟩ : ∃ s : Nat, p % (N : Int) = (s : Int) := ⟨(p % (N : Int)).toNat, by have := Int.emod_nonneg p hN0; omega⟩
  obtain ⟨d, hd⟩ : ∃ d : Nat, q % ((N : Int) - 1) = (d : Int) := ⟨(q % ((N : Int) - 1)).toNat, by have := Int.emod_nonneg q hM0; omega⟩
  have hsN : s < N := by have := Int.emod_lt_of_pos p (show (0 : Int) < (N : Int) by omega); omega
  have hdN : d + 1 < N := by have := Int.emod_lt_of_pos q (show (0 : Int) < (N : Int) - 1 by omega); omega
  have HS := Lib.hid hs
  have HD := Lib.hid hd
  have x0 := HG.out.c0
  go_enter Try.func10, Try.ntmps10
  go_wp2_with fail
  go_quiet (fail)
  go_wp2_with fail
  go_ret2
  obtain ⟨t, ht⟩ : ∃ t : Nat, ((s : Int) + 1 + (d : Int)) % (N : Int) = (t : Int) := ⟨(((s : Int) + 1 + (d : Int)) % (N : Int)).toNat, by have := Int.emod_nonneg ((s : Int) + 1 + (d : Int)) hN0; omega⟩
  refine ⟨below_drewN HG.out.below nq, s, t, by rw [HS.out, ht]; rfl, hsN, ?_, ?_⟩
  · have := Int.emod_lt_of_pos ((s : Int) + 1 + (d : Int)) (show (0 : Int) < (N : Int) by omega)
    omega
  · intro e
    subst e
    by_cases h : s + 1 + d < N
    · rw [Int.emod_eq_of_lt (by omega) (by omega)] at ht
      omega
    · have h2 : ((s : Int) + 1 + (d : Int)) % (N : Int) = (s : Int) + 1 + (d : Int) - (N : Int) := by
        rw [← Int.sub_emod_right, Int.emod_eq_of_lt (by omega) (by omega)]
      omega
end Go.Proofs.Ytifhapmblofmkaa
