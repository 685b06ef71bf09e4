/- Blocks that are known whole, and what stays of them. No walk. -/
import Derived.Test.YtechmejmlelmmaaKit
import Derived.Deep.AppendLies
import Derived.OwnWalk
namespace Go.Proofs.Ytechmejmlelmmaa
set_option linter.unusedVariables false
set_option linter.unusedSimpArgs false
set_option maxRecDepth 100000
open Go.RowKit

/-- Block b holds just the cells c, none of them frozen. -/
structure Own (w : World) (b : Nat) (c : Array Value) (t : TypeId) : Prop where
  blk : w.heap[b]? = some (.cells c t (0, 0))

theorem Own.lt {w : World} {b : Nat} {c : Array Value} {t : TypeId} (h : Own w b c t) : b < w.heap.size := by
  rcases Nat.lt_or_ge b w.heap.size with hlt | hge
  · exact hlt
  · have := h.blk; rw [Array.getElem?_eq_none hge] at this; cases this
theorem Own.cell {w : World} {b : Nat} {c : Array Value} {t : TypeId} (h : Own w b c t) (o : Nat) : w.cell? ⟨b, o, none⟩ = c[o]? := by
  simp [World.cell?, h.blk]
theorem Own.free {w : World} {b : Nat} {c : Array Value} {t : TypeId} (h : Own w b c t) (o : Nat) : w.frozen? ⟨b, o, none⟩ = false := by
  simp [World.frozen?, h.blk]
theorem Own.has {w : World} {b : Nat} {c : Array Value} {t : TypeId} (h : Own w b c t) : Has w b c := ⟨h.lt, h.cell⟩
theorem Own.new (w : World) (c : Array Value) (t : TypeId) : Own (w.alloc (.cells c t)) w.heap.size c t := ⟨heap_alloc_new w _⟩
theorem Own.newAt (w : World) (c : Array Value) (t : TypeId) {b : Nat} (hb : w.heap.size = b) : Own (w.alloc (.cells c t)) b c t := by subst hb; exact Own.new w c t
theorem Own.below {w w' : World} {b B : Nat} {c : Array Value} {t : TypeId} (h : Own w b c t) (hb : Below B w w') (hB : b < B) : Own w' b c t := ⟨by rw [hb.block b hB]; exact h.blk⟩
theorem Own.later {w w' : World} {b : Nat} {c : Array Value} {t : TypeId} (h : Own w b c t) (hb : Below w.heap.size w w') : Own w' b c t := h.below hb h.lt
theorem Own.alloc {w : World} {b : Nat} {c : Array Value} {t : TypeId} (h : Own w b c t) (o : Obj) : Own (w.alloc o) b c t := h.later ((Below.refl _ _).alloc (Nat.le_refl _) _)
theorem Own.drew {w : World} {b : Nat} {c : Array Value} {t : TypeId} (h : Own w b c t) : Own w.drew b c t := ⟨h.blk⟩
theorem Own.grown {w w' : World} {b : Nat} {c : Array Value} {t : TypeId} {row : Option Nat} (h : Own w b c t) (hg : w.grownBy w' row) (hne : some b ≠ row) : Own w' b c t := ⟨by rw [hg.block b h.lt hne]; exact h.blk⟩
theorem Own.setFar {w : World} {b : Nat} {c : Array Value} {t : TypeId} (h : Own w b c t) (p : Addr) (v : Value) (hne : b ≠ p.block) : Own (w.setCell p v) b c t := ⟨by rw [Below.heap_setCell _ _ _ _ hne]; exact h.blk⟩
theorem Own.set {w : World} {b : Nat} {c : Array Value} {t : TypeId} (h : Own w b c t) (o : Nat) (v : Value) : Own (w.setCell ⟨b, o, none⟩ v) b (c.setIfInBounds o v) t := ⟨by
  have h1 := h.blk
  simp only [World.setCell, Array.getElem?_modify, if_true]
  rw [h1]; simp⟩

/-- What is owned stays so while nothing old turns. -/
theorem ownsRow_below {w w' : World} {base : Nat} {e : TypeId} {size : Nat} {v : Value} {n : Nat} {xs : List Value} (h : w.ownsRow base e size v n xs) (hb : Below w.heap.size w w') : w'.ownsRow base e size v n xs :=
  h.kept (row := none) ⟨hb.os, hb.tape, hb.output, hb.size, fun k hk _ => hb.block k hk⟩ (by cases v.ownBlock <;> simp)

/-- A block below what is owned is none of its. -/
theorem own_ne {w : World} {base b : Nat} {e : TypeId} {size : Nat} {v : Value} {n : Nat} {xs : List Value} (h : w.ownsRow base e size v n xs) (hb : b < base) : some b ≠ v.ownBlock := by
  intro e'
  have := h.lt b e'.symm
  omega
theorem row_slice {w : World} {base : Nat} {e : TypeId} {size : Nat} {v : Value} {n : Nat} {xs : List Value} (h : w.ownsRow base e size v n xs) :
    ∃ (oa : Option Addr) (cap g : Nat), v = .slice oa n cap ∧ n ≤ cap ∧ cap ≤ maxLen ∧ (0 < n → oa = some ⟨g, 0, none⟩ ∧ base ≤ g ∧ g < w.heap.size) := by
  rcases h.2 with ⟨rfl, rfl⟩ | ⟨g, cap, cur, rfl, hb, hg, h1, h2, _⟩
  · exact ⟨none, 0, 0, rfl, Nat.le_refl _, Nat.zero_le _, fun h => absurd h (Nat.lt_irrefl _)⟩
  · exact ⟨_, cap, g, rfl, h1, h2, fun _ => ⟨rfl, hb, (h.lt g rfl).2⟩⟩
theorem row_form {w : World} {base : Nat} {e : TypeId} {size : Nat} {v : Value} {n : Nat} {xs : List Value} (h : w.ownsRow base e size v n xs) : v.oneCell' = true := by
  rcases h.2 with ⟨rfl, _⟩ | ⟨g, cap, cur, rfl, _⟩ <;> rfl

end Go.Proofs.Ytechmejmlelmmaa
