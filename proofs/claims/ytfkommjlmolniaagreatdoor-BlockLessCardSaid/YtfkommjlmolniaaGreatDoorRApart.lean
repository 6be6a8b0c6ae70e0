
import Derived.Test.YtfkommjlmolniaaGreatDoorGr20
import Derived.Test.YtfkommjlmolniaaGreatDoorGr1
import Derived.IntWalk
import Derived.Deep.LoopGhost
import Derived.Deep.RegionHeld3
import Derived.Deep.RegionWith
import Derived.Deep.CutRange
import Derived.BigRegion
import Derived.LoopTactic
set_option linter.unusedVariables false
namespace Go.Proofs.YtfkommjlmolniaaGreatDoor
open Go.RowKit
theorem cell_sameR {w W : World} {g : Nat} (h : W.heap[g]? = w.heap[g]?) (i : Nat) : W.cell? ⟨g,i,none⟩ = w.cell? ⟨g,i,none⟩ := by simp [World.cell?,h]
theorem rowsInfo : (Tryz.prog.info? 56).map (fun i => (i.zero,i.size,i.bytes)) = some (some (.slice none 0 0),1,24) := by kernel_rfl
end Go.Proofs.YtfkommjlmolniaaGreatDoor
