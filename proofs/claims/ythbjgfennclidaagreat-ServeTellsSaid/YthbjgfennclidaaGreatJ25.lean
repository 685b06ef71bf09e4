/- Joined: RefJoin. -/
import Derived.Test.YthbjgfennclidaaGreatJ11
import Derived.Deep.RegionHeld3
/- What is known: the document's Join, walked. -/
namespace Go.Proofs.YthbjgfennclidaaGreat
set_option linter.unusedVariables false
set_option linter.unusedSimpArgs false
set_option maxRecDepth 100000
open Go.RowKit
end Go.Proofs.YthbjgfennclidaaGreat
