/- Joined: RefSt9. -/
import Derived.Test.YthnllikalobmeaaGreatJ33
namespace Go.Proofs.YthnllikalobmeaaGreat
set_option linter.unusedVariables false
set_option linter.unusedSimpArgs false
set_option maxRecDepth 100000
set_option maxHeartbeats 8000000
open Go.RowKit
def creE (s:St) (x:Itm):Int:=if mayT x = true then (if (zad s x.id).2 = true ∧ (zad s x.id).1.d = false then 3 else (if (zad s x.id).2 = false ∧ s.store.length + s.out.length = 40 then 4 else (if zb0 s = true then 5 else 0))) else 1
def creS (s:St) (x:Itm):St:=if creE s x = 0 then zas s x else s
end Go.Proofs.YthnllikalobmeaaGreat
