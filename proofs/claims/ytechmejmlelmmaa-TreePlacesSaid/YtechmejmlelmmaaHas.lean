/- Which items a filter has: the code's walks. -/
import Derived.Test.YtechmejmlelmmaaHasM
import Derived.Test.YtechmejmlelmmaaFar
import Derived.Test.YtechmejmlelmmaaSame
import Derived.Test.YtechmejmlelmmaaOwn
import Derived.Test.YtechmejmlelmmaaPfx
namespace Go.Proofs.Ytechmejmlelmmaa
set_option linter.unusedVariables false
set_option linter.unusedSimpArgs false
set_option maxRecDepth 100000
open Go.RowKit

/-! ### some -/
abbrev itV (i : It) (r c st : Int) (d : Bool) : Value := .agg #[.string i.id, .int .i64 r, .int .i64 c, .int .i64 st, .string i.kd, .int .i64 i.num, .complex .f64 i.ax i.ay, .bool d]
abbrev itC (i : It) (r c st : Int) (d : Bool) : Array Value := #[.string i.id, .int .i64 r, .int .i64 c, .int .i64 st, .string i.kd, .int .i64 i.num, .complex .f64 i.ax i.ay, .bool d]

def IxRel (P : Pr → Bool) (l : List Pr) (len : Nat) (w0 : World) (i : Value) (wr : World) : Prop :=
  ∃ k : Nat, k ≤ len ∧ i = .int .i64 k ∧ Hid ((l.take k).any P = false) ∧ Below w0.heap.size w0 wr
theorem any_step {P : Pr → Bool} {l : List Pr} {k : Nat} {q : Pr} (hq : l[k]? = some q) (h : (l.take k).any P = false) (hs : P q = false) : (l.take (k + 1)).any P = false := by
  rw [Pr.take_one hq, List.any_append, h]; simp [hs]
theorem any_hit {P : Pr → Bool} {l : List Pr} {k : Nat} {q : Pr} (hq : l[k]? = some q) (hs : P q = true) : l.any P = true := by
  rw [List.any_eq_true]; exact ⟨q, List.mem_of_getElem? hq, hs⟩

end Go.Proofs.Ytechmejmlelmmaa
