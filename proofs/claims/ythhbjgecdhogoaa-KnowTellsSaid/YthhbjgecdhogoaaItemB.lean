/- Walks of the document's answer for names and versions, and of the code's checks of numbers. -/
import Derived.Test.YthhbjgecdhogoaaItemB0
namespace Go.Proofs.Ythhbjgecdhogoaa
set_option linter.unusedVariables false
set_option linter.unusedSimpArgs false
open Go.RowKit

set_option maxHeartbeats 400000 in
theorem refName_calls (s : ByteArray) (w : World) (hs : s.size ≤ maxLen) :
    Calls Try.prog 42 #[.string s] w fun e w' => e = .returned (.bool (nameB s)) ∧ w = w' := by
  have H := Lib.hid (letters_calls s 1 w hs)
  have e : nameB s = (txtB s && decide ((1 : Int) ≤ s.size)) := by
    unfold nameB; rw [Bool.and_comm]; congr 1; rw [decide_eq_decide]; omega
  rw [e]
  clear e
  generalize (txtB s && decide ((1 : Int) ≤ s.size)) = r at *
  go_enter Try.func42, Try.ntmps42
  go_wp2_with (go_at_call 60; refine (H.out).mono ?_; rintro e w' ⟨rfl, rfl⟩)
  go_ret
  exact ⟨rfl, rfl⟩

def inB (n a b : Int) : Bool := decide (a ≤ n) && decide (n ≤ b)
def verB (r c : Int) : Bool := inB r 1 8 && inB c 1 1000

end Go.Proofs.Ythhbjgecdhogoaa
