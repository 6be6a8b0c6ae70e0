/- All that the laws ask of package show. -/
import Derived.Test.YtnnddmojcaicbaaDoorSAll
import Derived.Test.YtnnddmojcaicbaaDoorShowSpec
namespace Go.Proofs.YtnnddmojcaicbaaDoor

theorem show_spec : ShowSpec := ⟨fun name a n cap l w ht hn hl hz hf => line_any name a n cap l w ht hn hl hz hf, fun A x w ht hi hm => showText_any A x w ht hi hm⟩
end Go.Proofs.YtnnddmojcaicbaaDoor
