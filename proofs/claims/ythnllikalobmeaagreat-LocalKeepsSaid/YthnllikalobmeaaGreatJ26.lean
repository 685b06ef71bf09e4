/- Joined: RefMayS. -/
import Derived.Test.YthnllikalobmeaaGreatJ23
import Derived.Test.YthnllikalobmeaaGreatJ06
import Derived.Test.YthnllikalobmeaaGreatJ19
import Derived.Deep.RegionHeld3
import Derived.Deep.MidRow
namespace Go.Proofs.YthnllikalobmeaaGreat
set_option linter.unusedVariables false
set_option linter.unusedSimpArgs false
set_option maxRecDepth 100000
set_option maxHeartbeats 8000000
open Go.RowKit
theorem MkS.alloc {w wr:World} {X:Array Value} (h:MkS w X wr) (o:Obj):MkS w X (wr.alloc o):=h.later ((Below.refl _ _).alloc (Nat.le_refl _) _)
end Go.Proofs.YthnllikalobmeaaGreat
