/- Walks of layer 2: whether two items are the same. -/
import Derived.Test.YtbojpdlidgmckaaItemD
namespace Go.Proofs.Ytbojpdlidgmckaa
set_option linter.unusedVariables false
set_option linter.unusedSimpArgs false
open Go.RowKit

def sameB (id : ByteArray) (r c st : Int) (kd : ByteArray) (n : Int) (x y : Nat) (d : Bool) (id' : ByteArray) (r' c' st' : Int) (kd' : ByteArray) (n' : Int) (x' y' : Nat) (d' : Bool) : Bool :=
  decide (id.toList = id'.toList) && (decide (r = r') && (decide (c = c') && (decide (st = st') && (decide (kd.toList = kd'.toList) && (decide (n = n') && (decide (d = d') && (feq x x' && feq y y')))))))

set_option maxHeartbeats 1000000 in
theorem refSame_calls (id : ByteArray) (r c st : Int) (kd : ByteArray) (n : Int) (x y : Nat) (d : Bool) (id' : ByteArray) (r' c' st' : Int) (kd' : ByteArray) (n' : Int) (x' y' : Nat) (d' : Bool) (w : World) :
    Calls Try.prog 14 #[itemV id r c st kd n x y d, itemV id' r' c' st' kd' n' x' y' d'] w fun e w' => e = .returned (.bool (sameB id r c st kd n x y d id' r' c' st' kd' n' x' y' d')) ∧ Below w.heap.size w w' := by
  have f1 : ∀ x y, (FloatKind.f64.format.order x y == some .eq) = feq x y := fun _ _ => rfl
  go_enter Try.func14, Try.ntmps14
  go_wp2
  all_goals
    go_ret
    exact ⟨ret_bool (by simp_all [sameB]), ((Below.refl _ _).alloc (Nat.le_refl _) _).alloc (by simp) _⟩

theorem cmpI_swap (a b : Int) : cmpI b a = - cmpI a b := by
  unfold cmpI; split <;> split <;> (try split) <;> omega
theorem cmpV_swap (a b c a' b' c' : Int) : cmpV a' b' c' a b c = - cmpV a b c a' b' c' := by
  unfold cmpV orI
  rw [cmpI_swap a a', cmpI_swap b b', cmpI_swap c c']
  split <;> split <;> (try split) <;> (try split) <;> omega
theorem cmpV_val (a b c a' b' c' : Int) : cmpV a b c a' b' c' = 1 ∨ cmpV a b c a' b' c' = 0 ∨ cmpV a b c a' b' c' = -1 := by
  unfold cmpV orI cmpI
  split <;> split <;> (try split) <;> (try split) <;> (try split) <;> omega

end Go.Proofs.Ytbojpdlidgmckaa
