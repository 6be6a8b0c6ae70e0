/- Package flow answers as it is to. -/
import Derived.Test.YtifhapmblofmkaaFMost
import Derived.Test.YtifhapmblofmkaaFRight
import Derived.Test.YtifhapmblofmkaaFCut
namespace Go.Proofs.Ytifhapmblofmkaa

theorem flow_spec : FlowSpec where
  check_any := fcheck_any
  ends_any := fends_any
  most_bad := fmost_bad
  most_ok := fmost_ok
  cut_bad := fcut_bad
  cut_ok := fcut_ok
  right_any := fright_any
end Go.Proofs.Ytifhapmblofmkaa
