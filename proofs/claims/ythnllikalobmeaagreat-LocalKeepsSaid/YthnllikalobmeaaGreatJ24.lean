/- Joined: RefJoin. -/
import Derived.Test.YthnllikalobmeaaGreatJ15
import Derived.Deep.RegionHeld3
namespace Go.Proofs.YthnllikalobmeaaGreat
set_option linter.unusedVariables false
set_option linter.unusedSimpArgs false
set_option maxRecDepth 100000
set_option maxHeartbeats 8000000
open Go.RowKit
end Go.Proofs.YthnllikalobmeaaGreat
