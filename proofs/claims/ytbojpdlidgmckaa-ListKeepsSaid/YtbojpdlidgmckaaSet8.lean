/- Eight stores into one block. No walk. -/
import Derived.Test.YtbojpdlidgmckaaOwn
namespace Go.Proofs.Ytbojpdlidgmckaa
set_option linter.unusedVariables false
set_option linter.unusedSimpArgs false
open Go.RowKit
def st8 (X : World) (b : Nat) (c0 c1 c2 c3 c4 c5 c6 c7 : Value) : World := ((((((((X.setCell ⟨b, 0, none⟩ c0).setCell ⟨b, 1, none⟩ c1).setCell ⟨b, 2, none⟩ c2).setCell ⟨b, 3, none⟩ c3).setCell ⟨b, 4, none⟩ c4).setCell ⟨b, 5, none⟩ c5).setCell ⟨b, 6, none⟩ c6).setCell ⟨b, 7, none⟩ c7)
theorem set_8 (z0 z1 z2 z3 z4 z5 z6 z7 c0 c1 c2 c3 c4 c5 c6 c7 : Value) : (((((((((#[z0, z1, z2, z3, z4, z5, z6, z7] : Array Value).setIfInBounds 0 c0).setIfInBounds 1 c1).setIfInBounds 2 c2).setIfInBounds 3 c3).setIfInBounds 4 c4).setIfInBounds 5 c5).setIfInBounds 6 c6).setIfInBounds 7 c7) = #[c0, c1, c2, c3, c4, c5, c6, c7] := by simp
theorem st8_own {X : World} {b : Nat} {z0 z1 z2 z3 z4 z5 z6 z7 : Value} {T : TypeId} (o : Own X b #[z0, z1, z2, z3, z4, z5, z6, z7] T) (c0 c1 c2 c3 c4 c5 c6 c7 : Value) : Own (st8 X b c0 c1 c2 c3 c4 c5 c6 c7) b #[c0, c1, c2, c3, c4, c5, c6, c7] T := by
  have h := ((((((((o.set 0 c0).set 1 c1).set 2 c2).set 3 c3).set 4 c4).set 5 c5).set 6 c6).set 7 c7)
  rw [set_8] at h
  exact h
theorem st8_below {w X : World} {B b : Nat} (hb : Below B w X) (hp : B ≤ b) (c0 c1 c2 c3 c4 c5 c6 c7 : Value) : Below B w (st8 X b c0 c1 c2 c3 c4 c5 c6 c7) := by
  unfold st8
  exact ((((((((hb.setCell (p := ⟨b, 0, none⟩) hp c0).setCell (p := ⟨b, 1, none⟩) hp c1).setCell (p := ⟨b, 2, none⟩) hp c2).setCell (p := ⟨b, 3, none⟩) hp c3).setCell (p := ⟨b, 4, none⟩) hp c4).setCell (p := ⟨b, 5, none⟩) hp c5).setCell (p := ⟨b, 6, none⟩) hp c6).setCell (p := ⟨b, 7, none⟩) hp c7)
end Go.Proofs.Ytbojpdlidgmckaa
