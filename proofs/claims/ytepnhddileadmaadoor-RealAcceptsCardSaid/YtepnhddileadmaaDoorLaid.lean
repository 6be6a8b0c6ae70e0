/- The library's table of powers of ten: where it lies, and that what makes memory leaves it as it was. -/
import Derived.Test.YtepnhddileadmaaDoorRows
import Derived.Test.YtepnhddileadmaaDoorPlain
import Derived.WalkKit
import Derived.Test.YtepnhddileadmaaDoorShelf
import Derived.Lib.LaidTab
import Derived.Below
import Derived.WalkSmall
namespace Go.Proofs.YtepnhddileadmaaDoor
open Go.RowKit

theorem gPow : Tryd.prog.globalNamed "internal/strconv.uint64pow10" = some 1 := by kernel_rfl
theorem tab_below {w w' : World} (h : Below w.heap.size w w') (hg : 1 < w.heap.size) (ht : Lib.TabIs Tryd.prog w "internal/strconv.uint64pow10" .u64 Lib.pow10Tab) : Lib.TabIs Tryd.prog w' "internal/strconv.uint64pow10" .u64 Lib.pow10Tab :=
  var?_below h gPow hg ht
theorem pow_room {W : World} (h : Lib.TabIs Tryd.prog W "internal/strconv.uint64pow10" .u64 Lib.pow10Tab) : 1 < W.heap.size :=
  World.block_lt_of_cell? W ⟨1, 0, none⟩ (h.cell gPow 0 (by rw [Lib.pow10Tab_length]; omega))
end Go.Proofs.YtepnhddileadmaaDoor
