/- Joined: LKeepM. -/
import Derived.Test.YtjkcooakddlppaaGreatJ35
import Derived.Test.YtjkcooakddlppaaGreatJ40
import Derived.Test.YtjkcooakddlppaaGreatJ44
/- LocalKeeps: what a deed comes to, as the law asks. No walk. -/
namespace Go.Proofs.YtjkcooakddlppaaGreat
set_option linter.unusedVariables false
set_option linter.unusedSimpArgs false
set_option maxRecDepth 100000
open Go.RowKit
theorem stands_same {s : St} (hG : Good s) (id : ByteArray) : sameT (standsS s id).1 (standsS s id).1 = true := by
  cases hh : (standsS s id).2 with
  | true =>
    have h := (stands_may hG hh).1
    exact sameT_real (mayT_feq h).1 (mayT_feq h).2
  | false =>
    rcases stands_or hG id with ⟨i, _, _, hq⟩ | ⟨i, _, _, hq⟩ | ⟨_, _, hq⟩
    · rw [hq] at hh; cases hh
    · rw [hq] at hh; cases hh
    · rw [hq]
      exact sameT_real (by decide) (by decide)
end Go.Proofs.YtjkcooakddlppaaGreat
