/- Joined: RefWithK. -/
import Derived.Test.YthbjgfennclidaaGreatJ25
/- What is known: the document's With, walked. -/
namespace Go.Proofs.YthbjgfennclidaaGreat
set_option linter.unusedVariables false
set_option linter.unusedSimpArgs false
set_option maxRecDepth 100000
open Go.RowKit
structure WiS (w : World) (B bt : Nat) (X Y Z T : Array Value) (W : World) : Prop where
  o1 : Own W w.heap.size X 31
  o2 : Own W (w.heap.size + 1) Y 66
  o3 : Own W (w.heap.size + 1 + 1) Z 31
  ot : Own W bt T 31
  be : Below w.heap.size w W
  hs : B ≤ W.heap.size
  hb : w.heap.size + 1 + 1 < bt ∧ bt < B
section
variable {w W W' : World} {B bt : Nat} {X Y Z T : Array Value}
theorem WiS.later (h : WiS w B bt X Y Z T W) (hb : Below W.heap.size W W') : WiS w B bt X Y Z T W' :=
  ⟨h.o1.later hb, h.o2.later hb, h.o3.later hb, h.ot.later hb, h.be.trans (hb.mono h.be.size), Nat.le_trans h.hs hb.size, h.hb⟩
theorem WiS.alloc (h : WiS w B bt X Y Z T W) (o : Obj) : WiS w B bt X Y Z T (W.alloc o) := h.later ((Below.refl _ _).alloc (Nat.le_refl _) _)
theorem WiS.drew (h : WiS w B bt X Y Z T W) : WiS w B bt X Y Z T W.drew := h.later (Below.refl _ _).drew
theorem WiS.grown (h : WiS w B bt X Y Z T W) {e : TypeId} {size n : Nat} {v : Value} {xs : List Value} (hr : W.ownsRow B e size v n xs) (hg : W.grownBy W' v.ownBlock) : WiS w B bt X Y Z T W' := by
  have h1 := h.hb
  exact ⟨h.o1.grown hg (own_ne hr (by omega)), h.o2.grown hg (own_ne hr (by omega)), h.o3.grown hg (own_ne hr (by omega)), h.ot.grown hg (own_ne hr (by omega)),
    h.be.grown hg h.be.size fun k hk => by have := (World.ownsRow.lt hr k hk).1; omega, Nat.le_trans h.hs hg.size, h.hb⟩
end
end Go.Proofs.YthbjgfennclidaaGreat
