/- Joined: RefMayS. -/
import Derived.Test.YtodfhabkdaiopaaGreatJ24
import Derived.Test.YtodfhabkdaiopaaGreatJ06
import Derived.Test.YtodfhabkdaiopaaGreatJ17
import Derived.Deep.RegionHeld3
import Derived.Deep.MidRow
namespace Go.Proofs.YtodfhabkdaiopaaGreat
set_option linter.unusedVariables false
set_option linter.unusedSimpArgs false
set_option maxRecDepth 100000
set_option maxHeartbeats 8000000
open Go.RowKit
theorem Row.since {sz:Nat} {f:Itm→List Value} {w w':World} {l:List Itm} {v:Value} (h:Row sz f w l v) (hb:Below w.heap.size w w'):Row sz f w' l v:=h.later hb
theorem StW.since {w w':World} {s:St} {fv sv ov kv:Value} (h:StW w s fv sv ov kv) (hb:Below w.heap.size w w'):StW w' s fv sv ov kv:=h.later hb
theorem MkS.alloc {w wr:World} {X:Array Value} (h:MkS w X wr) (o:Obj):MkS w X (wr.alloc o):=h.later ((Below.refl _ _).alloc (Nat.le_refl _) _)
end Go.Proofs.YtodfhabkdaiopaaGreat
