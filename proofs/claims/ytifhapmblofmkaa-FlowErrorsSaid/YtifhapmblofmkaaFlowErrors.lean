/- The walk of the law on errors of package flow: all of it. -/
import Derived.Test.YtifhapmblofmkaaFlowErr1
import Derived.Test.YtifhapmblofmkaaFlowErr2
import Derived.Test.YtifhapmblofmkaaFlowErr3
import Derived.Test.YtifhapmblofmkaaFlowErr4
namespace Go.Proofs.Ytifhapmblofmkaa
open Go.RowKit

variable {len cap m c : Nat} {l : List Pi} {w wr w2 : World} {n s t : Int} {a b : Option Addr} {xs : List Int}
theorem flowErrors_walk (P : FlowSpec) (hawake : ∀ w, Calls Try.prog 8 #[] w fun e w' => e = .returned (.bool true) ∧ Below w.heap.size w w') (n : Int) (a : Option Addr) (cap : Nat) (s t : Int) (b : Option Addr) (c : Nat) (w : World)
    (_hlm : len ≤ maxLen) (hl : IsPipes w.heap.size w a len l) (hm : m ≤ maxLen) (hi : IsNums w.heap.size w b m xs) :
    Calls Try.prog 6 #[.agg #[.int .i64 n, .slice a len cap], .int .i64 s, .int .i64 t, .slice b m c] w fun e w' => e = .returned (.bool true) ∧ Below w.heap.size w w' := by
  unfold maxLen at hm
  by_cases h : (30 : Int) < (len : Int) ∨ (20 < n ∧ n ≤ 1000)
  · exact law_early hawake h a b cap w
  · have h30 : ¬ (30 : Int) < (len : Int) := by omega
    by_cases h2 : 20 < n
    · exact flowErrors_many P hawake h30 h2 (by omega) (by omega) hm a b cap w hl hi
    · by_cases h0 : n < 0
      · exact flowErrors_neg P hawake h30 h0 h2 hm a b cap w hl hi
      · cases hall : l.all (okP n) with
        | false => exact flowErrors_bad P hawake h30 h0 h2 hall hm a b cap w hl hi
        | true =>
          by_cases hS : s < 0 ∨ n ≤ s
          · exact flowErrors_from P hawake h30 h0 h2 hall hS hm a b cap w hl hi
          · by_cases hT : t < 0 ∨ n ≤ t
            · exact flowErrors_to P hawake h30 h0 h2 hall (by omega) (by omega) hT hm a b cap w hl hi
            · by_cases h3 : s = t
              · exact flowErrors_same P hawake h30 h0 h2 hall (by omega) (by omega) (by omega) (by omega) h3 hm a b cap w hl hi
              · exact flowErrors_good P hawake h30 h0 h2 hall (by omega) (by omega) (by omega) (by omega) h3 hm a b cap w hl hi
end Go.Proofs.Ytifhapmblofmkaa
