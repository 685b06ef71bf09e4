/- An argument that is a row of Trees: opened. No walk. -/
import Derived.Test.YtechmejmlelmmaaTree
import Derived.Test.YtechmejmlelmmaaTreL
namespace Go.Proofs.Ytechmejmlelmmaa
set_option linter.unusedVariables false
set_option linter.unusedSimpArgs false
set_option maxRecDepth 100000
open Go.ChangeShapes Go.WideShapes Go.ChangeAt Go.RowKit Go.Deep
section
variable {H : Type} {enc : TypeId × Value → H} {w : World} {base : Nat} {spare : Nat → Bool} {held : Bool}
set_option maxRecDepth 100000 in
theorem open_trees {r : Reach} {b0 : Nat} {v : Value} {d : DataW H} {p : List MemPlace} (hv : Value.okWide Try.prog w r b0 22 v) (h : DataW.Trod enc Try.prog w base spare held 22 v d p) :
    ∃ (l : List Pr), LKT w l v := by
  obtain ⟨a, len, cap, rfl⟩ := okWide_slice Try.underlying22 hv
  obtain ⟨f, hf⟩ := h
  obtain ⟨l, u, e, hl⟩ := trod_kids f (fun n _ => trod_tree n) hf
  have e' : Value.slice a len cap = u := by simpa [Value.cells] using e
  rw [e']
  exact ⟨l, hl 0 ⟨#[]⟩ 0 0 0 (by decide)⟩
end
end Go.Proofs.Ytechmejmlelmmaa
