/- Walks of the document's answer for names and versions, and of the code's checks of numbers. -/
import Derived.Test.YtbojpdlidgmckaaItemB0
namespace Go.Proofs.Ytbojpdlidgmckaa
set_option linter.unusedVariables false
set_option linter.unusedSimpArgs false
open Go.RowKit

set_option maxHeartbeats 400000 in
theorem refName_calls (s : ByteArray) (w : World) (hs : s.size ≤ maxLen) :
    Calls Try.prog 30 #[.string s] w fun e w' => e = .returned (.bool (nameB s)) ∧ w = w' := by
  have H := Lib.hid (letters_calls s 1 w hs)
  have e : nameB s = (txtB s && decide ((1 : Int) ≤ s.size)) := by
    unfold nameB; rw [Bool.and_comm]; congr 1; rw [decide_eq_decide]; omega
  rw [e]
  clear e
  generalize (txtB s && decide ((1 : Int) ≤ s.size)) = r at *
  go_enter Try.func30, Try.ntmps30
  go_wp2_with (go_at_call 45; refine (H.out).mono ?_; rintro e w' ⟨rfl, rfl⟩)
  go_ret
  exact ⟨rfl, rfl⟩

def inB (n a b : Int) : Bool := decide (a ≤ n) && decide (n ≤ b)
def verB (r c : Int) : Bool := inB r 1 8 && inB c 1 1000

set_option maxHeartbeats 400000 in
theorem within_calls (n a b : Int) (w : World) :
    Calls Try.prog 37 #[.int .i64 n, .int .i64 a, .int .i64 b] w fun e w' => e = .returned (.bool (inB n a b)) ∧ w = w' := by
  unfold inB
  by_cases h : a ≤ n <;> by_cases h' : n ≤ b <;>
  ( go_enter Try.func37, Try.ntmps37
    go_wp2
    go_ret
    exact ⟨ret_bool (by simp [h, h']), rfl⟩ )

set_option maxHeartbeats 400000 in
theorem version_calls (r c : Int) (w : World) :
    Calls Try.prog 36 #[.agg #[.int .i64 r, .int .i64 c]] w fun e w' => e = .returned (.bool (verB r c)) ∧ Below w.heap.size w w' := by
  have H := fun n a b w => Lib.hid (within_calls n a b w)
  unfold verB
  cases h1 : inB r 1 8
  · go_enter Try.func36, Try.ntmps36
    go_wp2_with (go_at_call 37; refine ((H _ _ _ _).out).mono ?_; rintro e w' ⟨rfl, rfl⟩)
    go_ret
    exact ⟨rfl, (Below.refl _ _).alloc (Nat.le_refl _) _⟩
  · go_enter Try.func36, Try.ntmps36
    go_wp2_with (go_at_call 37; refine ((H _ _ _ _).out).mono ?_; rintro e w' ⟨rfl, rfl⟩)
    go_ret
    exact ⟨rfl, (Below.refl _ _).alloc (Nat.le_refl _) _⟩

set_option maxHeartbeats 400000 in
theorem refVer_calls (r c : Int) (w : World) :
    Calls Try.prog 32 #[.agg #[.int .i64 r, .int .i64 c]] w fun e w' => e = .returned (.bool (verB r c)) ∧ Below w.heap.size w w' := by
  unfold verB inB
  by_cases h1 : 1 ≤ r
  · by_cases h2 : r ≤ 8
    · by_cases h3 : 1 ≤ c
      · by_cases h4 : c ≤ 1000
        all_goals
          go_enter Try.func32, Try.ntmps32
          go_wp2
          go_ret
          exact ⟨ret_bool (by simp [h1, h2, h3, h4]), (Below.refl _ _).alloc (Nat.le_refl _) _⟩
      · go_enter Try.func32, Try.ntmps32
        go_wp2
        go_ret
        exact ⟨ret_bool (by simp [h1, h2, h3]; omega), (Below.refl _ _).alloc (Nat.le_refl _) _⟩
    · go_enter Try.func32, Try.ntmps32
      go_wp2
      go_ret
      exact ⟨ret_bool (by simp [h1]; omega), (Below.refl _ _).alloc (Nat.le_refl _) _⟩
  · go_enter Try.func32, Try.ntmps32
    go_wp2
    go_ret
    exact ⟨ret_bool (by simp; omega), (Below.refl _ _).alloc (Nat.le_refl _) _⟩

end Go.Proofs.Ytbojpdlidgmckaa
