/- What follows of what is seen: plain mathematics. No walk. -/
import Derived.Test.YtechmejmlelmmaaSeenM
import Derived.Test.YtechmejmlelmmaaNodes
namespace Go.Proofs.Ytechmejmlelmmaa
set_option linter.unusedVariables false
set_option linter.unusedSimpArgs false
set_option maxRecDepth 100000
namespace Pr

abbrev starP : Pr := .node 1 ⟨#[]⟩ 0 0 0 []
abbrev noneP : Pr := .node 2 ⟨#[]⟩ 0 0 0 []
def nodeA (p q : Pr) : Pr := .node 8 ⟨#[]⟩ 0 0 0 [p, q]
theorem star_may : starP.mayB = true := by decide +kernel
theorem none_may : noneP.mayB = true := by decide +kernel
theorem seen_star (p : Pr) : seenB p starP = true := by rw [seenB_eq]; simp [op]
theorem seen_none (p : Pr) : seenB noneP p = true := by rw [seenB_eq]; simp [op]
theorem seen_self {p : Pr} (h : p.all = true) : seenB p p = true := by rw [seenB_eq, all_same p h]; simp
theorem in_self {p : Pr} (h : p.mayB = true) : inB p p = true := by
  unfold inB; rw [h, seen_self (predMay_parts h).2.2]; rfl
theorem in_star {p : Pr} (h : p.mayB = true) : inB p starP = true := by unfold inB; rw [h, star_may, seen_star]; rfl
theorem in_none {p : Pr} (h : p.mayB = true) : inB noneP p = true := by unfold inB; rw [h, none_may, seen_none]; rfl
theorem in_not {p q : Pr} (h : p.mayB = false ∨ q.mayB = false) : inB p q = false := by
  unfold inB
  rcases h with h | h
  · rw [h]; rfl
  · rw [h]; simp
theorem in_parts {p q : Pr} (h : inB p q = true) : p.mayB = true ∧ q.mayB = true ∧ seenB p q = true := by
  unfold inB at h
  simp only [Bool.and_eq_true] at h
  exact ⟨h.1.1, h.1.2, h.2⟩
theorem in_sound {i : It} {p q : Pr} (h : inB p q = true) (hp : hasB i p = true) : hasB i q = true := by
  obtain ⟨h1, h2, h3⟩ := in_parts h
  exact seen_sound i _ p q (Nat.le_refl _) (predMay_parts h1).2.2 (predMay_parts h2).2.2 h3 hp
theorem in_both {p q r : Pr} (h : inB p q = true) (hm : (nodeA p r).mayB = true) : inB (nodeA p r) q = true := by
  obtain ⟨h1, h2, h3⟩ := in_parts h
  unfold inB
  rw [hm, h2, seenB_eq]
  have : listsB (nodeA p r) q = true := by
    unfold listsB nodeA
    simp [op, kids, h3]
  rw [this]; simp
theorem in_some {p q r : Pr} (h : inB p q = true) (hm : (nodeO r q).mayB = true) : inB p (nodeO r q) = true := by
  obtain ⟨h1, h2, h3⟩ := in_parts h
  unfold inB
  rw [hm, h1, seenB_eq]
  have : listsB p (nodeO r q) = true := by
    unfold listsB nodeO
    simp [op, kids, h3]
  rw [this]; simp
end Pr

end Go.Proofs.Ytechmejmlelmmaa
