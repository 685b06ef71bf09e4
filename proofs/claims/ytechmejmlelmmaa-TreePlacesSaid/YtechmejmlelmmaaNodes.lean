/- A filter alone in a Not, two in an Or: plain mathematics, and how they lie. No walk. -/
import Derived.Test.YtechmejmlelmmaaFits
import Derived.Test.YtechmejmlelmmaaOwn
namespace Go.Proofs.Ytechmejmlelmmaa
set_option linter.unusedVariables false
set_option linter.unusedSimpArgs false
set_option maxRecDepth 100000
open Go.RowKit

theorem lies_leaf {w : World} (op : Int) (t : ByteArray) (n : Int) (x y : Nat) (ht : t.size ≤ maxLen) : LP w (.node op t n x y []) (.slice none 0 0) :=
  .mk op t n x y [] none 0 0 0 (fun _ => .nilFunc) ht (Nat.le_refl _) (Nat.zero_le _) (fun h => absurd h (Nat.lt_irrefl _)) (fun i p h => by simp at h) (fun i p h => by simp at h)

def nodeN (p : Pr) : Pr := .node 10 ⟨#[]⟩ 0 0 0 [p]
def nodeO (p q : Pr) : Pr := .node 9 ⟨#[]⟩ 0 0 0 [p, q]
theorem predMay_parts {p : Pr} (h : p.mayB = true) : p.size ≤ 30 ∧ p.depth ≤ 6 ∧ p.all = true := by
  obtain ⟨h1, h2, h3⟩ := fits_true.1 h
  exact ⟨by omega, by omega, h3⟩
theorem may_kid {p q : Pr} {k : Nat} (h : p.mayB = true) (hq : p.kids[k]? = some q) : q.mayB = true := by
  obtain ⟨h1, h2, h3⟩ := predMay_parts h
  obtain ⟨op, t, n, x, y, kids⟩ := p
  simp only [Pr.kids_node, Pr.size, Pr.depth, Pr.all, Bool.and_eq_true] at *
  have a := Pr.size_mem (List.mem_of_getElem? hq)
  have b := Pr.depth_mem (List.mem_of_getElem? hq)
  exact fits_true.2 ⟨by omega, by omega, Pr.all_mem (List.mem_of_getElem? hq) h3.2⟩
theorem nodeN_part : Pr.partB 10 ⟨#[]⟩ 0 0 0 1 = true := by decide +kernel
theorem nodeO_part : Pr.partB 9 ⟨#[]⟩ 0 0 0 2 = true := by decide +kernel
theorem nodeN_may {p : Pr} (h : p.all = true) : (nodeN p).mayB = (decide ((p.size : Int) < 30) && decide ((p.depth : Int) < 6)) := by
  have e1 : (nodeN p).size = 1 + (p.size + 0) := by simp only [nodeN, Pr.size, Pr.sizes]
  have e2 : (nodeN p).depth = 1 + max p.depth 0 := by simp only [nodeN, Pr.depth, Pr.depths]
  have e3 : (nodeN p).all = true := by
    simp only [nodeN, Pr.all, Pr.alls, h]
    rw [show ([p] : List Pr).length = 1 from rfl, nodeN_part]; rfl
  rw [Bool.eq_iff_iff]
  unfold Pr.mayB
  rw [fits_true, e1, e2, e3]
  simp only [Bool.and_eq_true, decide_eq_true_eq, and_true]
  omega
theorem nodeO_may {p q : Pr} (h : p.all = true) (h' : q.all = true) : (nodeO p q).mayB = (decide ((p.size : Int) + (q.size : Int) < 30) && decide (max (p.depth : Int) (q.depth : Int) < 6)) := by
  have e1 : (nodeO p q).size = 1 + (p.size + (q.size + 0)) := by simp only [nodeO, Pr.size, Pr.sizes]
  have e2 : (nodeO p q).depth = 1 + max p.depth (max q.depth 0) := by simp only [nodeO, Pr.depth, Pr.depths]
  have e3 : (nodeO p q).all = true := by
    simp only [nodeO, Pr.all, Pr.alls, h, h']
    rw [show ([p, q] : List Pr).length = 2 from rfl, nodeO_part]; rfl
  rw [Bool.eq_iff_iff]
  unfold Pr.mayB
  rw [fits_true, e1, e2, e3]
  simp only [Bool.and_eq_true, decide_eq_true_eq, and_true]
  omega
theorem nodeO_size (p q : Pr) : ((nodeO p q).size : Int) = (p.size : Int) + (q.size : Int) + 1 := by
  simp only [nodeO, Pr.size, Pr.sizes]; omega
theorem nodeO_depth (p q : Pr) : ((nodeO p q).depth : Int) = max (p.depth : Int) (q.depth : Int) + 1 := by
  simp only [nodeO, Pr.depth, Pr.depths]; omega
theorem nodeN_same (p : Pr) : Pr.same p (nodeN p) = false := by
  cases h : Pr.same p (nodeN p) with
  | false => rfl
  | true =>
    have := Pr.same_size _ _ h
    simp only [nodeN, Pr.size, Pr.sizes] at this; omega

/-- One block that holds a filter, two of them, as Kids. -/
theorem lies_one_kid {w : World} {N : Nat} {p : Pr} {v : Value} {t : TypeId} (ho : Own w N #[.int .i64 p.op, .string p.text, .int .i64 p.n, .complex .f64 p.x p.y, v] t) (hl : LP w p v) (op : Int) : LP w (.node op ⟨#[]⟩ 0 0 0 [p]) (.slice (some ⟨N, 0, none⟩) 1 1) := by
  refine .mk op ⟨#[]⟩ 0 0 0 [p] (some ⟨N, 0, none⟩) 1 N 0 (fun _ => v) (by decide) (Nat.le_refl _) (by decide) (fun _ => ⟨rfl, ho.lt⟩) (fun i q hq j u hu => ?_) (fun i q hq => ?_)
  · match i, hq with
    | 0, hq =>
      simp at hq; subst hq
      rw [ho.cell, ← hu]; simp [pc]
  · match i, hq with
    | 0, hq => simp at hq; subst hq; exact hl
theorem lies_two_kids {w : World} {N : Nat} {p q : Pr} {v v' : Value} {t : TypeId} (ho : Own w N #[.int .i64 p.op, .string p.text, .int .i64 p.n, .complex .f64 p.x p.y, v, .int .i64 q.op, .string q.text, .int .i64 q.n, .complex .f64 q.x q.y, v'] t) (hl : LP w p v) (hl' : LP w q v') (op : Int) :
    LP w (.node op ⟨#[]⟩ 0 0 0 [p, q]) (.slice (some ⟨N, 0, none⟩) 2 2) := by
  refine .mk op ⟨#[]⟩ 0 0 0 [p, q] (some ⟨N, 0, none⟩) 2 N 0 (fun i => if i = 0 then v else v') (by decide) (Nat.le_refl _) (by decide) (fun _ => ⟨rfl, ho.lt⟩) (fun i r hr j u hu => ?_) (fun i r hr => ?_)
  · match i, hr with
    | 0, hr =>
      simp at hr; subst hr
      simp only [if_true] at hu
      rw [ho.cell]
      match j, hu with
      | 0, hu | 1, hu | 2, hu | 3, hu | 4, hu => rw [← hu]; simp [pc]
    | 1, hr =>
      simp at hr; subst hr
      simp at hu
      rw [ho.cell]
      match j, hu with
      | 0, hu | 1, hu | 2, hu | 3, hu | 4, hu => rw [← hu]; simp [pc]
  · match i, hr with
    | 0, hr => simp at hr; subst hr; exact hl
    | 1, hr => simp at hr; subst hr; exact hl'


end Go.Proofs.Ytechmejmlelmmaa
