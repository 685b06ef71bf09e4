/- The loops' word of sizes and depths. No walk. -/
import Derived.Test.YtechmejmlelmmaaLies
namespace Go.Proofs.Ytechmejmlelmmaa
set_option linter.unusedVariables false
set_option linter.unusedSimpArgs false
set_option maxRecDepth 100000
open Go.RowKit

/-- The loops' word: k of Kids are gone through, f says of them s. -/
def SumRel (l : List Pr) (len : Nat) (f : List Pr → Nat) (w0 : World) (n i : Value) (wr : World) : Prop :=
  ∃ (k s : Nat), k ≤ len ∧ i = .int .i64 k ∧ n = .int .i64 s ∧ s ≤ 1000 ∧ Hid (s = f (l.take k)) ∧ Below w0.heap.size w0 wr

theorem max_int (a b : Nat) : max (a : Int) (b : Int) = ((max a b : Nat) : Int) := by omega
theorem lies_val {sz : Nat} {c : Pr → Value → List Value} {S : Nat → Prop} {w : World} {p : Pr} {v : Value} (h : Lies sz c S w p v) : ∃ oa cap, v = .slice oa p.kids.length cap := by
  obtain ⟨oa, cap, _, _, _, rfl, _⟩ := lies_slice h; exact ⟨oa, cap, rfl⟩
theorem below_first {w w' : World} {o : Obj} (h : Below (w.alloc o).heap.size (w.alloc o) w') : Below w.heap.size w w' := below_new h

end Go.Proofs.Ytechmejmlelmmaa
