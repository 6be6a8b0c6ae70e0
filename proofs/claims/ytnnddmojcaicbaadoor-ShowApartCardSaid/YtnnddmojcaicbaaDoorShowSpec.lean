/- What the laws ask of package show. -/
import Derived.Test.YtnnddmojcaicbaaDoorSWords
import Derived.Test.YtnnddmojcaicbaaDoorLdA
namespace Go.Proofs.YtnnddmojcaicbaaDoor
open Go.RowKit
open Go.Lib (itoa)

structure ShowSpec : Prop where
  line : ∀ (name : ByteArray) (a : Option Addr) (n cap : Nat) (l : List Int) (w : World), Tab w → name.size ≤ 300 → n ≤ 100 → IsNums w.heap.size w a n l → (∀ v ∈ l, Fits v) →
    Calls Tryd.prog 10 #[.string name, .slice a n cap] w fun e w' => e = .returned (.string ⟨(lineS name.data.toList l).toArray⟩) ∧ Below w.heap.size w w'
  text : ∀ (A : InA) (x : Ins) (w : World), Tab w → IsIns w.heap.size w A x → May x →
    Calls Tryd.prog 12 #[.agg (insC A x)] w fun e w' => e = .returned (.string ⟨(showB x).toArray⟩) ∧ Below w.heap.size w w'
end Go.Proofs.YtnnddmojcaicbaaDoor
