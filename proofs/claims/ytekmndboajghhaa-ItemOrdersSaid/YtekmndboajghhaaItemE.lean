/- Walks of layer 2: whether two items are the same. -/
import Derived.Test.YtekmndboajghhaaItemD
namespace Go.Proofs.Ytekmndboajghhaa
open Go.RowKit

def feq (x y : Nat) : Bool := FloatKind.f64.format.order x y == some .eq
def sameB (id : ByteArray) (r c st : Int) (kd : ByteArray) (n : Int) (x y : Nat) (d : Bool) (id' : ByteArray) (r' c' st' : Int) (kd' : ByteArray) (n' : Int) (x' y' : Nat) (d' : Bool) : Bool :=
  decide (id.toList = id'.toList) && (decide (r = r') && (decide (c = c') && (decide (st = st') && (decide (kd.toList = kd'.toList) && (decide (n = n') && (decide (d = d') && (feq x x' && feq y y')))))))

set_option maxHeartbeats 1000000 in
theorem same_calls (id : ByteArray) (r c st : Int) (kd : ByteArray) (n : Int) (x y : Nat) (d : Bool) (id' : ByteArray) (r' c' st' : Int) (kd' : ByteArray) (n' : Int) (x' y' : Nat) (d' : Bool) (w : World) :
    Calls Try.prog 13 #[itemV id r c st kd n x y d, itemV id' r' c' st' kd' n' x' y' d'] w fun e w' => e = .returned (.bool (sameB id r c st kd n x y d id' r' c' st' kd' n' x' y' d')) ∧ Below w.heap.size w w' := by
  have f1 : ∀ x y, (FloatKind.f64.format.order x y == some .eq) = feq x y := fun _ _ => rfl
  go_enter Try.func13, Try.ntmps13
  go_wp2
  all_goals
    go_ret
    exact ⟨ret_bool (by simp_all [sameB]), ((Below.refl _ _).alloc (Nat.le_refl _) _).alloc (by simp) _⟩

set_option maxHeartbeats 1000000 in
theorem refSame_calls (id : ByteArray) (r c st : Int) (kd : ByteArray) (n : Int) (x y : Nat) (d : Bool) (id' : ByteArray) (r' c' st' : Int) (kd' : ByteArray) (n' : Int) (x' y' : Nat) (d' : Bool) (w : World) :
    Calls Try.prog 14 #[itemV id r c st kd n x y d, itemV id' r' c' st' kd' n' x' y' d'] w fun e w' => e = .returned (.bool (sameB id r c st kd n x y d id' r' c' st' kd' n' x' y' d')) ∧ Below w.heap.size w w' := by
  have f1 : ∀ x y, (FloatKind.f64.format.order x y == some .eq) = feq x y := fun _ _ => rfl
  go_enter Try.func14, Try.ntmps14
  go_wp2
  all_goals
    go_ret
    exact ⟨ret_bool (by simp_all [sameB]), ((Below.refl _ _).alloc (Nat.le_refl _) _).alloc (by simp) _⟩

theorem cmpI_swap (a b : Int) : cmpI b a = - cmpI a b := by
  unfold cmpI; split <;> split <;> (try split) <;> omega
theorem cmpV_swap (a b c a' b' c' : Int) : cmpV a' b' c' a b c = - cmpV a b c a' b' c' := by
  unfold cmpV orI
  rw [cmpI_swap a a', cmpI_swap b b', cmpI_swap c c']
  split <;> split <;> (try split) <;> (try split) <;> omega
theorem cmpV_val (a b c a' b' c' : Int) : cmpV a b c a' b' c' = 1 ∨ cmpV a b c a' b' c' = 0 ∨ cmpV a b c a' b' c' = -1 := by
  unfold cmpV orI cmpI
  split <;> split <;> (try split) <;> (try split) <;> (try split) <;> omega

set_option maxHeartbeats 1000000 in
theorem refCompare_calls (id : ByteArray) (r c st : Int) (kd : ByteArray) (n : Int) (x y : Nat) (d : Bool) (id' : ByteArray) (r' c' st' : Int) (kd' : ByteArray) (n' : Int) (x' y' : Nat) (d' : Bool) (w : World) :
    Calls Try.prog 12 #[itemV id r c st kd n x y d, itemV id' r' c' st' kd' n' x' y' d'] w fun e w' => e = .returned (.int .i64 (cmpV st r c st' r' c')) ∧ Below w.heap.size w w' := by
  have H1 := fun w => Lib.hid (behind_calls id r c st kd n x y d id' r' c' st' kd' n' x' y' d' w)
  have H2 := fun w => Lib.hid (behind_calls id' r' c' st' kd' n' x' y' d' id r c st kd n x y d w)
  have hs := cmpV_swap st r c st' r' c'
  rw [hs] at H2
  clear hs
  have hv := cmpV_val st r c st' r' c'
  generalize cmpV st r c st' r' c' = v at *
  rcases hv with rfl | rfl | rfl
  all_goals
    go_enter Try.func12, Try.ntmps12
    go_wp2_with fail
    refine ((H1 _).out).mono ?_; rintro e w' ⟨rfl, hb⟩; obtain ⟨hc, hf⟩ := bcell hb
    try (go_wp2_with fail; refine ((H2 _).out).mono ?_; rintro e w' ⟨rfl, hb'⟩)
    go_wp2
    go_ret
    refine ⟨rfl, ?_⟩
    first | exact below_new (below_new hb) | exact below_new (below_new (hb.trans (hb'.mono hb.size)))

end Go.Proofs.Ytekmndboajghhaa
