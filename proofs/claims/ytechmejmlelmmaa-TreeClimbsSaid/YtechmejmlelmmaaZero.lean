/- Whether a filter may be: the document's answer. -/
import Derived.Test.YtechmejmlelmmaaFits
import Derived.Deep.DeepCutAuto
namespace Go.Proofs.Ytechmejmlelmmaa
set_option linter.unusedVariables false
set_option linter.unusedSimpArgs false
set_option maxRecDepth 100000
open Go.RowKit

def zeroB (bt bn ba bk : Bool) (t : ByteArray) (n : Int) (x y len : Nat) : Bool :=
  (bt || decide (t.toList = [])) && ((bn || decide (n = 0)) && ((ba || (feq x 0 && feq y 0)) && (bk || decide (len = 0))))

theorem len_pos (k : Nat) : decide ((0 : Int) < (k : Int)) = !decide (k = 0) := by
  rw [Bool.eq_iff_iff]; simp; omega

set_option maxHeartbeats 4000000 in
theorem zero_calls (bt bn ba bk : Bool) (op : Int) (t : ByteArray) (n : Int) (x y : Nat) (oa : Option Addr) (len cap : Nat) (w : World) :
    Calls Try.prog 34 #[.agg #[.int .i64 op, .string t, .int .i64 n, .complex .f64 x y, .slice oa len cap], .bool bt, .bool bn, .bool ba, .bool bk] w fun e w' => e = .returned (.bool (zeroB bt bn ba bk t n x y len)) ∧ Below w.heap.size w w' := by
  have f1 : ∀ x y, (FloatKind.f64.format.order x y == some .eq) = feq x y := fun _ _ => rfl
  cases bt <;> cases bn <;> cases ba <;> cases bk
  all_goals
    go_enter Try.func34, Try.ntmps34
    go_wp2
    all_goals
      go_ret
      refine ⟨ret_bool ?_, (Below.refl _ _).alloc (Nat.le_refl _) _⟩
      first
        | (simp_all [zeroB, len_pos]; done)
        | (have hl0 : ¬ len = 0 := by omega
           simp_all [zeroB, len_pos])

end Go.Proofs.Ytechmejmlelmmaa
