/- Joined: Laid, Tabs. -/
import Derived.Test.YtnnddmojcaicbaaDoorRows
import Derived.Test.YtnnddmojcaicbaaDoorPlA
import Derived.WalkKit
import Derived.Test.YtnnddmojcaicbaaDoorShelf
import Derived.Lib.LaidTab
import Derived.Below
import Derived.WalkSmall
section
/- The library's table of powers of ten: where it lies, and that what makes memory leaves it as it was. -/
namespace Go.Proofs.YtnnddmojcaicbaaDoor
open Go.RowKit

theorem gPow : Tryd.prog.globalNamed "internal/strconv.uint64pow10" = some 0 := by kernel_rfl
theorem tab_below {w w' : World} (h : Below w.heap.size w w') (hg : 0 < w.heap.size) (ht : Lib.TabIs Tryd.prog w "internal/strconv.uint64pow10" .u64 Lib.pow10Tab) : Lib.TabIs Tryd.prog w' "internal/strconv.uint64pow10" .u64 Lib.pow10Tab :=
  var?_below h gPow hg ht
theorem pow_room {W : World} (h : Lib.TabIs Tryd.prog W "internal/strconv.uint64pow10" .u64 Lib.pow10Tab) : 0 < W.heap.size :=
  World.block_lt_of_cell? W ⟨0, 0, none⟩ (h.cell gPow 0 (by rw [Lib.pow10Tab_length]; omega))
end Go.Proofs.YtnnddmojcaicbaaDoor
end
section
/- The library's table of powers of ten, as the walks of tied cards have it. -/
namespace Go.Proofs.YtnnddmojcaicbaaDoor
open Go.RowKit

def Tab (w : World) : Prop := Lib.TabIs Tryd.prog w "internal/strconv.uint64pow10" .u64 Lib.pow10Tab
def Holds (w : World) (e : Ending) (w' : World) : Prop := e = .returned (.bool true) ∧ Below w.heap.size w w'
theorem Tab.later {w w' : World} (h : Tab w) (hb : Below w.heap.size w w') : Tab w' := tab_below hb (pow_room h) h
theorem Tab.drew {w : World} (h : Tab w) : Tab w.drew := h.later (Below.refl _ _).drew
end Go.Proofs.YtnnddmojcaicbaaDoor
end
