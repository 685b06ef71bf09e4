/- Items by layer 2, of items as they are: plain mathematics. No walk. -/
import Derived.Test.YtbojpdlidgmckaaItemE
import Derived.Test.YtbojpdlidgmckaaRowI
namespace Go.Proofs.Ytbojpdlidgmckaa
set_option linter.unusedVariables false
set_option linter.unusedSimpArgs false
open Go.RowKit
/-- Which may be; which comes behind; which are the same. -/
def mayT (i : Itm) : Bool := mayI i.id i.r i.c i.st i.kd i.num i.x i.y
def cmpT (a b : Itm) : Int := cmpV a.st a.r a.c b.st b.r b.c
def behT (a b : Itm) : Bool := decide (cmpT a b = 1)
def sameT (a b : Itm) : Bool := sameB a.id a.r a.c a.st a.kd a.num a.x a.y a.d b.id b.r b.c b.st b.kd b.num b.x b.y b.d
theorem beh_self (a : Itm) : behT a a = false := by
  unfold behT cmpT cmpV orI cmpI
  simp
theorem beh_not {a b : Itm} (h : behT a b = true) : behT b a = false := by
  unfold behT cmpT at *
  rw [decide_eq_true_eq] at h
  rw [cmpV_swap, h]
  decide
theorem sameT_real {i : Itm} (hx : feq i.x i.x = true) (hy : feq i.y i.y = true) : sameT i i = true := by
  unfold sameT sameB
  simp [hx, hy]
theorem mayT_feq {i : Itm} (h : mayT i = true) : feq i.x i.x = true ∧ feq i.y i.y = true := by
  unfold mayT mayI mayB at h
  simp only [Bool.and_eq_true] at h
  exact ⟨feq_self h.2.2.2.2.2.1, feq_self h.2.2.2.2.2.2⟩

theorem refMayT_calls (i : Itm) (w : World) (hi : i.id.size ≤ maxLen) (hk : i.kd.size ≤ maxLen) :
    Calls Try.prog 22 #[iV i] w fun e w' => e = .returned (.bool (mayT i)) ∧ Below w.heap.size w w' :=
  refMay_calls i.id i.r i.c i.st i.kd i.num i.x i.y i.d w hi hk
theorem behT_calls (a b : Itm) (w : World) :
    Calls Try.prog 23 #[iV a, iV b] w fun e w' => e = .returned (.bool (behT a b)) ∧ Below w.heap.size w w' :=
  behind_calls a.id a.r a.c a.st a.kd a.num a.x a.y a.d b.id b.r b.c b.st b.kd b.num b.x b.y b.d w
theorem sameT_calls (a b : Itm) (w : World) :
    Calls Try.prog 14 #[iV a, iV b] w fun e w' => e = .returned (.bool (sameT a b)) ∧ Below w.heap.size w w' :=
  refSame_calls a.id a.r a.c a.st a.kd a.num a.x a.y a.d b.id b.r b.c b.st b.kd b.num b.x b.y b.d w
end Go.Proofs.Ytbojpdlidgmckaa
