/- The order of texts: plain mathematics. No walk. -/
import Derived.Test.YtbojpdlidgmckaaKit
namespace Go.Proofs.Ytbojpdlidgmckaa
set_option linter.unusedVariables false
set_option linter.unusedSimpArgs false
open Go.RowKit

theorem less_irr : ∀ (x : List UInt8), Op.bytesLess x x = false
  | [] => by simp [Op.bytesLess]
  | a :: x => by simp [Op.bytesLess, less_irr x]
theorem less_trans : ∀ {x y z : List UInt8}, Op.bytesLess x y = true → Op.bytesLess y z = true → Op.bytesLess x z = true
  | [], [], _, h, _ => by simp [Op.bytesLess] at h
  | _ :: _, [], _, h, _ => by simp [Op.bytesLess] at h
  | _, _ :: _, [], _, h => by simp [Op.bytesLess] at h
  | [], _ :: _, _ :: _, _, _ => by simp [Op.bytesLess]
  | a :: x, b :: y, c :: z, h1, h2 => by
    simp only [Op.bytesLess, Bool.or_eq_true, Bool.and_eq_true, decide_eq_true_eq, beq_iff_eq] at *
    rcases h1 with h1 | ⟨h1, h1'⟩ <;> rcases h2 with h2 | ⟨h2, h2'⟩
    · exact .inl (UInt8.lt_trans h1 h2)
    · subst h2; exact .inl h1
    · subst h1; exact .inl h2
    · subst h1 h2; exact .inr ⟨rfl, less_trans h1' h2'⟩
theorem less_tri : ∀ (x y : List UInt8), Op.bytesLess x y = true ∨ x = y ∨ Op.bytesLess y x = true
  | [], [] => .inr (.inl rfl)
  | [], _ :: _ => .inl (by simp [Op.bytesLess])
  | _ :: _, [] => .inr (.inr (by simp [Op.bytesLess]))
  | a :: x, b :: y => by
    simp only [Op.bytesLess, Bool.or_eq_true, Bool.and_eq_true, decide_eq_true_eq, beq_iff_eq, List.cons.injEq]
    have tri : a < b ∨ a = b ∨ b < a := by
      rcases Nat.lt_trichotomy a.toNat b.toNat with h | h | h
      · exact .inl (UInt8.lt_iff_toNat_lt.2 h)
      · exact .inr (.inl (UInt8.toNat_inj.1 h))
      · exact .inr (.inr (UInt8.lt_iff_toNat_lt.2 h))
    rcases tri with h | h | h
    · exact .inl (.inl h)
    · subst h
      rcases less_tri x y with h | h | h
      · exact .inl (.inr ⟨rfl, h⟩)
      · exact .inr (.inl ⟨rfl, h⟩)
      · exact .inr (.inr (.inr ⟨rfl, h⟩))
    · exact .inr (.inr (.inl h))
theorem tl_inj {a b : ByteArray} (h : a.toList = b.toList) : a = b := by
  rw [ByteArray.toList_eq, ByteArray.toList_eq] at h
  cases a; cases b; simp at h; subst h; rfl

def lsB (a b : ByteArray) : Bool := Op.bytesLess a.toList b.toList
def gtB (a b : ByteArray) : Bool := !(Op.bytesLess a.toList b.toList || a.toList == b.toList)
def leB (a b : ByteArray) : Bool := Op.bytesLess a.toList b.toList || a.toList == b.toList
theorem ls_irr (a : ByteArray) : lsB a a = false := less_irr _
theorem ls_trans {a b c : ByteArray} (h1 : lsB a b = true) (h2 : lsB b c = true) : lsB a c = true := less_trans h1 h2
theorem ls_tri (a b : ByteArray) : lsB a b = true ∨ a = b ∨ lsB b a = true := by
  rcases less_tri a.toList b.toList with h | h | h
  · exact .inl h
  · exact .inr (.inl (tl_inj h))
  · exact .inr (.inr h)
theorem ls_asym {a b : ByteArray} (h : lsB a b = true) : lsB b a = false := by
  cases e : lsB b a with
  | false => rfl
  | true => have := ls_trans h e; rw [ls_irr] at this; cases this
theorem ls_ne {a b : ByteArray} (h : lsB a b = true) : a ≠ b := by
  intro e; subst e; rw [ls_irr] at h; cases h
theorem tl_eq {a b : ByteArray} : (a.toList == b.toList) = true ↔ a = b := by
  rw [beq_iff_eq]; exact ⟨tl_inj, fun e => by rw [e]⟩
theorem tl_ne {a b : ByteArray} : (a.toList == b.toList) = false ↔ a ≠ b := by
  rw [beq_eq_false_iff_ne]; exact ⟨fun h e => h (by rw [e]), fun h e => h (tl_inj e)⟩
theorem le_iff {a b : ByteArray} : leB a b = true ↔ lsB a b = true ∨ a = b := by
  unfold leB lsB
  rw [Bool.or_eq_true, tl_eq]
theorem le_not {a b : ByteArray} (h : leB a b = false) : lsB b a = true := by
  rcases ls_tri a b with h1 | h1 | h1
  · have : leB a b = true := le_iff.2 (.inl h1)
    rw [this] at h; cases h
  · have : leB a b = true := le_iff.2 (.inr h1)
    rw [this] at h; cases h
  · exact h1
theorem gt_eq (a b : ByteArray) : gtB a b = lsB b a := by
  have : gtB a b = !leB a b := rfl
  rw [this]
  cases h : leB a b with
  | false => rw [le_not h]; rfl
  | true =>
    rcases le_iff.1 h with h1 | h1
    · rw [ls_asym h1]; rfl
    · subst h1; rw [ls_irr]; rfl

/-! ### Lists of texts that rise -/
def Rise (l : List ByteArray) : Prop := l.Pairwise fun a b => lsB a b = true
theorem rise_cons {a : ByteArray} {l : List ByteArray} : Rise (a :: l) ↔ (∀ x ∈ l, lsB a x = true) ∧ Rise l := List.pairwise_cons
theorem rise_ext : ∀ {l m : List ByteArray}, Rise l → Rise m → (∀ x, x ∈ l ↔ x ∈ m) → l = m
  | [], [], _, _, _ => rfl
  | [], b :: m, _, _, h => by have := (h b).2 (by simp); simp at this
  | a :: l, [], _, _, h => by have := (h a).1 (by simp); simp at this
  | a :: l, b :: m, h1, h2, h => by
    rw [rise_cons] at h1 h2
    have e : a = b := by
      have ha := (h a).1 (by simp)
      have hb := (h b).2 (by simp)
      rcases List.mem_cons.1 ha with e | ha
      · exact e
      rcases List.mem_cons.1 hb with e | hb
      · exact e.symm
      have := ls_trans (h1.1 b hb) (h2.1 a ha)
      rw [ls_irr] at this; cases this
    subst e
    congr 1
    refine rise_ext h1.2 h2.2 fun x => ⟨fun hx => ?_, fun hx => ?_⟩
    · rcases List.mem_cons.1 ((h x).1 (by simp [hx])) with e | h'
      · subst e; have := h1.1 x hx; rw [ls_irr] at this; cases this
      · exact h'
    · rcases List.mem_cons.1 ((h x).2 (by simp [hx])) with e | h'
      · subst e; have := h2.1 x hx; rw [ls_irr] at this; cases this
      · exact h'
theorem rise_filter {p : ByteArray → Bool} {l : List ByteArray} (h : Rise l) : Rise (l.filter p) := List.Pairwise.filter p h

end Go.Proofs.Ytbojpdlidgmckaa
