/- Counts of replicas: the code's own replica, walked. -/
import Derived.Test.YthhbjgecdhogoaaRefVec
namespace Go.Proofs.Ythhbjgecdhogoaa
set_option linter.unusedVariables false
set_option linter.unusedSimpArgs false
open Go.RowKit

def repB (r : Int) : Bool := decide (1 ≤ r) && decide (r ≤ 8)
set_option maxHeartbeats 1000000 in
theorem replica_calls (r : Int) (w : World) :
    Calls Try.prog 49 #[.int .i64 r] w fun e w' => e = .returned (.bool (repB r)) ∧ w' = w := by
  unfold repB
  cases g1 : decide (1 ≤ r)
  all_goals
    cases g2 : decide (r ≤ 8)
    all_goals
      go_enter Try.func49, Try.ntmps49
      go_wp2_with fail
      go_ret
      simp

theorem replica_quiet (r : Int) (w : World) :
    Calls Try.prog 49 #[.int .i64 r] w fun e w' => e = .returned (.bool (repB r)) ∧ Below w.heap.size w w' :=
  (replica_calls r w).mono (by rintro e w' ⟨h, rfl⟩; exact ⟨h, Below.refl _ _⟩)
theorem rep_no {r : Int} (h : r < 1 ∨ 8 < r) : repB r = false := by
  unfold repB
  rcases h with h | h
  · rw [show decide (1 ≤ r) = false from decide_eq_false (by omega)]; rfl
  · rw [show decide (r ≤ 8) = false from decide_eq_false (by omega)]; simp
theorem rep_yes {k : Nat} (h : k < 8) : repB ((k : Int) + 1) = true := by
  unfold repB
  rw [show decide (1 ≤ (k : Int) + 1) = true from decide_eq_true (by omega), show decide ((k : Int) + 1 ≤ 8) = true from decide_eq_true (by omega)]
  rfl
theorem has_out {A : Nat → Int} {r c : Int} (h : r < 1 ∨ 8 < r) : hasV A r c = false := by
  unfold hasV
  rw [cnt_out h]
  by_cases h1 : 1 ≤ c
  · rw [show decide (c ≤ 0) = false from decide_eq_false (by omega)]; simp
  · rw [decide_eq_false h1]; rfl

end Go.Proofs.Ythhbjgecdhogoaa
