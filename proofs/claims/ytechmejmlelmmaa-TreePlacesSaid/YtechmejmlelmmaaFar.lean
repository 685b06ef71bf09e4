/- How far two places are apart, whether they are near: the code's walks. -/
import Derived.Test.YtechmejmlelmmaaFarM
namespace Go.Proofs.Ytechmejmlelmmaa
set_option linter.unusedVariables false
set_option linter.unusedSimpArgs false
set_option maxRecDepth 100000
open Go.RowKit

end Go.Proofs.Ytechmejmlelmmaa
