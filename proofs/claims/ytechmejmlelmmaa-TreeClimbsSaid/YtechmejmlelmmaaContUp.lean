/- The document's example of layer 5: the walk. -/
import Derived.Test.YtechmejmlelmmaaContIn
import Derived.Test.YtechmejmlelmmaaInM
namespace Go.Proofs.Ytechmejmlelmmaa
set_option linter.unusedVariables false
set_option linter.unusedSimpArgs false
set_option maxRecDepth 100000
open Go.RowKit

abbrev less3 : Pr := .node 5 ⟨#[]⟩ 3 0 0 []
abbrev less5 : Pr := .node 5 ⟨#[]⟩ 5 0 0 []
abbrev more1 : Pr := .node 6 ⟨#[]⟩ 1 0 0 []
theorem up_in1 : Pr.inB less3 less5 = true := by
  unfold Pr.inB
  rw [show less3.mayB = true by decide +kernel, show less5.mayB = true by decide +kernel, Pr.seenB_eq]
  simp [Pr.restB, Pr.op, Pr.n]
theorem up_in2 : Pr.inB less3 more1 = false := by
  unfold Pr.inB
  rw [Pr.seenB_eq]
  simp [Pr.restB, Pr.listsB, Pr.same, Pr.op, Pr.n, Pr.kids]

end Go.Proofs.Ytechmejmlelmmaa
