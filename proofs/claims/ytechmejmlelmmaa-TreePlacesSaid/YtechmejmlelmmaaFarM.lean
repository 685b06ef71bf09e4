/- How far two places are apart: plain mathematics. No walk. -/
import Derived.Test.YtechmejmlelmmaaPMay
namespace Go.Proofs.Ytechmejmlelmmaa
set_option linter.unusedVariables false
set_option linter.unusedSimpArgs false
set_option maxRecDepth 100000
open Go.RowKit

def farV (a b c d : Nat) : Int := if mayB a b && mayB c d then (Fl.iv a - Fl.iv c) * (Fl.iv a - Fl.iv c) + (Fl.iv b - Fl.iv d) * (Fl.iv b - Fl.iv d) else -1

theorem may_parts {a b : Nat} (h : mayB a b = true) : Fl.IsInt a (Fl.iv a) ∧ Fl.IsInt b (Fl.iv b) ∧ (Fl.iv a).natAbs ≤ 1000 ∧ (Fl.iv b).natAbs ≤ 1000 := by
  unfold mayB at h
  simp only [Bool.and_eq_true] at h
  have h1 := Fl.wb_int h.1
  have h2 := Fl.wb_int h.2
  exact ⟨h1.1, h2.1, h1.2, h2.2⟩

theorem sq_bd {p : Int} (h1 : -2000 ≤ p) (h2 : p ≤ 2000) : 0 ≤ p * p ∧ p * p ≤ 4000000 := by
  constructor
  · rcases Int.lt_or_le p 0 with h | h
    · have := Int.mul_nonneg_of_nonpos_of_nonpos (Int.le_of_lt h) (Int.le_of_lt h); exact this
    · exact Int.mul_nonneg h h
  · have := Int.mul_nonneg (show 0 ≤ 2000 - p by omega) (show 0 ≤ 2000 + p by omega)
    have e : (2000 - p) * (2000 + p) = 4000000 - p * p := by
      rw [Int.sub_mul, Int.mul_add, Int.mul_add, Int.mul_comm 2000 p]; omega
    omega

theorem farV_bd (a b c d : Nat) : -1 ≤ farV a b c d ∧ farV a b c d ≤ 8000000 := by
  unfold farV
  split
  · rename_i h
    simp only [Bool.and_eq_true] at h
    obtain ⟨_, _, b1, b2⟩ := may_parts h.1
    obtain ⟨_, _, b3, b4⟩ := may_parts h.2
    have h1 := sq_bd (p := Fl.iv a - Fl.iv c) (by omega) (by omega)
    have h2 := sq_bd (p := Fl.iv b - Fl.iv d) (by omega) (by omega)
    omega
  · omega

def nearB (a b c d : Nat) (n : Int) : Bool := decide (0 ≤ farV a b c d) && decide (farV a b c d ≤ n)

end Go.Proofs.Ytechmejmlelmmaa
