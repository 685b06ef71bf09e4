/- Five stores into one block. No walk. -/
import Derived.Test.YtechmejmlelmmaaStock
namespace Go.Proofs.Ytechmejmlelmmaa
set_option linter.unusedVariables false
set_option linter.unusedSimpArgs false
set_option maxRecDepth 100000
open Go.RowKit
def st5 (X : World) (b : Nat) (c0 c1 c2 c3 c4 : Value) : World := ((((X.setCell ⟨b, 0, none⟩ c0).setCell ⟨b, 1, none⟩ c1).setCell ⟨b, 2, none⟩ c2).setCell ⟨b, 3, none⟩ c3).setCell ⟨b, 4, none⟩ c4
theorem size_set (X : World) (p : Addr) (c : Value) : (X.setCell p c).heap.size = X.heap.size := by simp [World.setCell]
theorem st5_size (X : World) (b : Nat) (c0 c1 c2 c3 c4 : Value) : (st5 X b c0 c1 c2 c3 c4).heap.size = X.heap.size := by
  unfold st5; rw [size_set, size_set, size_set, size_set, size_set]
theorem st5_heap (X : World) (b k : Nat) (c0 c1 c2 c3 c4 : Value) (h : k ≠ b) : (st5 X b c0 c1 c2 c3 c4).heap[k]? = X.heap[k]? := by
  unfold st5
  rw [Below.heap_setCell _ _ _ _ h, Below.heap_setCell _ _ _ _ h, Below.heap_setCell _ _ _ _ h, Below.heap_setCell _ _ _ _ h, Below.heap_setCell _ _ _ _ h]
theorem set_0 (z0 z1 z2 z3 z4 c0 c1 c2 c3 c4 : Value) : ((((((#[z0, z1, z2, z3, z4] : Array Value).setIfInBounds 0 c0).setIfInBounds 1 c1).setIfInBounds 2 c2).setIfInBounds 3 c3).setIfInBounds 4 c4) = #[c0, c1, c2, c3, c4] := by simp
theorem st5_own {X : World} {b : Nat} {z0 z1 z2 z3 z4 : Value} {T : TypeId} (o : Own X b #[z0, z1, z2, z3, z4] T) (c0 c1 c2 c3 c4 : Value) : Own (st5 X b c0 c1 c2 c3 c4) b #[c0, c1, c2, c3, c4] T := by
  have h := ((((o.set 0 c0).set 1 c1).set 2 c2).set 3 c3).set 4 c4
  rw [set_0] at h
  exact h
theorem st5_below {w X : World} {B b : Nat} (hb : Below B w X) (hp : B ≤ b) (c0 c1 c2 c3 c4 : Value) : Below B w (st5 X b c0 c1 c2 c3 c4) := by
  unfold st5
  exact ((((hb.setCell (p := ⟨b, 0, none⟩) hp c0).setCell (p := ⟨b, 1, none⟩) hp c1).setCell (p := ⟨b, 2, none⟩) hp c2).setCell (p := ⟨b, 3, none⟩) hp c3).setCell (p := ⟨b, 4, none⟩) hp c4
theorem st5_lies {w X : World} {c0 c1 c2 c3 c4 : Value} {q : Pr} {v : Value} (hl : Lies 5 pc (fun b => w.heap.size + 3 ≤ b ∧ b < X.heap.size) X q v) : Lies 5 pc (fun b => w.heap.size ≤ b ∧ b < (st5 X (w.heap.size + 1) c0 c1 c2 c3 c4).heap.size) (st5 X (w.heap.size + 1) c0 c1 c2 c3 c4) q v := by
  refine hl.mono (fun b o hS => World.cell?_of_block (st5_heap _ _ _ _ _ _ _ _ ?_)) (fun b hS => ⟨?_, ?_⟩)
  · have := hS.1; show b ≠ _; omega
  · have := hS.1; omega
  · rw [st5_size]; exact hS.2
end Go.Proofs.Ytechmejmlelmmaa
