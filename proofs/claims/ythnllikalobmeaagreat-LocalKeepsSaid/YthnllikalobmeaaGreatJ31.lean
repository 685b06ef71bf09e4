/- Joined: RefOwnK. -/
import Derived.Test.YthnllikalobmeaaGreatJ25
namespace Go.Proofs.YthnllikalobmeaaGreat
set_option linter.unusedVariables false
set_option linter.unusedSimpArgs false
set_option maxRecDepth 100000
set_option maxHeartbeats 8000000
open Go.RowKit
structure OwS (w:World) (X Y Z:Array Value) (W:World):Prop where
 o1:Own W w.heap.size X 31
 o2:Own W (w.heap.size + 1) Y 67
 o3:Own W (w.heap.size + 1 + 1) Z 31
 be:Below w.heap.size w W
theorem OwS.later {w W W':World} {X Y Z:Array Value} (h:OwS w X Y Z W) (hb:Below W.heap.size W W'):OwS w X Y Z W' :=
 ⟨h.o1.later hb,h.o2.later hb,h.o3.later hb,h.be.trans (hb.mono h.be.size)⟩
end Go.Proofs.YthnllikalobmeaaGreat
