/- Package graph: the receiver's box, where some blocks alone are written. -/
import Derived.Test.YtgoegkajfhhcjaaCheck
import Derived.Test.YtgoegkajfhhcjaaOwn
namespace Go.Proofs.Ytgoegkajfhhcjaa
open Go.RowKit

variable {w wr w2 : World} {a : Option Addr} {len cap g : Nat} {n : Int}
theorem Box.kept {S : Nat → Prop} (h : Box w wr g n a len cap) (hm : Mod S wr w2) (hS : ∀ k, S k → w.heap.size ≤ k) (hg : ¬ S g) : Box w w2 g n a len cap :=
  ⟨((Mod.of_below S h.below).trans hm).below (Nat.le_refl _) hS, h.ge, (hm.block g h.lt hg).trans h.blk⟩
end Go.Proofs.Ytgoegkajfhhcjaa
