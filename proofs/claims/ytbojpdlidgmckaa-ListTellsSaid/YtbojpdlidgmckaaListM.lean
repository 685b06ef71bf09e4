/- Lists of items that rise: plain mathematics. No walk. -/
import Derived.Test.YtbojpdlidgmckaaRefList3
import Derived.Test.YtbojpdlidgmckaaItemM
namespace Go.Proofs.Ytbojpdlidgmckaa
set_option linter.unusedVariables false
set_option linter.unusedSimpArgs false
open Go.RowKit

theorem up_eq (a b : Itm) : upB a b = lsB a.id b.id := by
  have h := gt_eq b.id a.id
  unfold gtB at h
  exact h
theorem rises_rise : ∀ {l : List Itm}, risesB l = true ↔ Rise (l.map (·.id))
  | [] => by simp [risesB, Rise]
  | [a] => by simp [risesB, Rise]
  | a :: b :: l => by
    rw [risesB, Bool.and_eq_true, rises_rise (l := b :: l), up_eq]
    have e : (a :: b :: l).map (·.id) = a.id :: (b :: l).map (·.id) := rfl
    rw [e, rise_cons]
    constructor
    · rintro ⟨h1, h2⟩
      refine ⟨fun x hx => ?_, h2⟩
      rw [List.map_cons] at hx h2
      rcases List.mem_cons.1 hx with e | hx
      · subst e; exact h1
      · exact ls_trans h1 ((rise_cons.1 h2).1 x hx)
    · rintro ⟨h1, h2⟩
      exact ⟨h1 b.id (by simp), h2⟩
abbrev RiseI (l : List Itm) : Prop := Rise (l.map (·.id))
theorem riseI_cons {a : Itm} {l : List Itm} : RiseI (a :: l) ↔ (∀ x ∈ l, lsB a.id x.id = true) ∧ RiseI l := by
  unfold RiseI
  rw [List.map_cons, rise_cons]
  simp
theorem riseI_filter {p : Itm → Bool} {l : List Itm} (h : RiseI l) : RiseI (l.filter p) := by
  unfold RiseI Rise at *
  rw [List.pairwise_map] at *
  exact List.Pairwise.filter p h
theorem riseI_app {l m : List Itm} (h1 : RiseI l) (h2 : RiseI m) (h : ∀ a ∈ l, ∀ b ∈ m, lsB a.id b.id = true) : RiseI (l ++ m) := by
  unfold RiseI Rise at *
  rw [List.map_append, List.pairwise_append]
  refine ⟨h1, h2, fun a ha b hb => ?_⟩
  obtain ⟨x, hx, rfl⟩ := List.mem_map.1 ha
  obtain ⟨y, hy, rfl⟩ := List.mem_map.1 hb
  exact h x hx y hy
theorem riseI_uniq {l : List Itm} (h : RiseI l) {a b : Itm} (ha : a ∈ l) (hb : b ∈ l) (e : a.id = b.id) : a = b := by
  induction l with
  | nil => simp at ha
  | cons x l ih =>
    rw [riseI_cons] at h
    rcases List.mem_cons.1 ha with ea | ha
    · rcases List.mem_cons.1 hb with eb | hb
      · rw [ea, eb]
      · have := h.1 b hb; rw [← ea, e, ls_irr] at this; cases this
    · rcases List.mem_cons.1 hb with eb | hb
      · have := h.1 a ha; rw [← eb, e, ls_irr] at this; cases this
      · exact ih h.2 ha hb

/-! ### Put, dropped -/
theorem put_rise {l : List Itm} {x : Itm} (h : RiseI l) : RiseI (putI l x) := by
  unfold putI
  refine riseI_app (riseI_app (riseI_filter h) (riseI_cons.2 ⟨by simp, by simp [RiseI, Rise]⟩) fun a ha b hb => ?_) (riseI_filter h) fun a ha b hb => ?_
  · simp at hb; subst hb; exact (List.mem_filter.1 ha).2
  · have h2 := (List.mem_filter.1 hb).2
    rw [gt_eq] at h2
    rcases List.mem_append.1 ha with ha | ha
    · exact ls_trans (List.mem_filter.1 ha).2 h2
    · simp at ha; subst ha; exact h2
theorem mem_put {l : List Itm} {x i : Itm} : i ∈ putI l x ↔ i = x ∨ (i ∈ l ∧ i.id ≠ x.id) := by
  unfold putI
  simp only [List.mem_append, List.mem_filter, List.mem_cons, List.not_mem_nil, or_false, gt_eq]
  constructor
  · rintro ((⟨h1, h2⟩ | h) | ⟨h1, h2⟩)
    · exact .inr ⟨h1, ls_ne h2⟩
    · exact .inl h
    · exact .inr ⟨h1, fun e => ls_ne h2 e.symm⟩
  · rintro (h | ⟨h1, h2⟩)
    · exact .inl (.inr h)
    · rcases ls_tri i.id x.id with h | h | h
      · exact .inl (.inl ⟨h1, h⟩)
      · exact absurd h h2
      · exact .inr ⟨h1, h⟩
theorem mem_drop {l : List Itm} {id : ByteArray} {i : Itm} : i ∈ l.filter (neB id) ↔ i ∈ l ∧ i.id ≠ id := by
  rw [List.mem_filter]
  unfold neB
  rw [Bool.not_eq_true', tl_ne]

/-! ### Got -/
theorem get_some {l : List Itm} {id : ByteArray} {i : Itm} (h : RiseI l) (hi : i ∈ l) (e : i.id = id) : getI l id = (i, true) := by
  unfold getI
  have hf : l.find? (fun i => i.id.toList == id.toList) = some i := by
    cases hq : l.find? (fun i => i.id.toList == id.toList) with
    | none =>
      rw [List.find?_eq_none] at hq
      exact absurd (tl_eq.2 e) (hq i hi)
    | some j =>
      have hj : (j.id.toList == id.toList) = true := List.find?_some (p := fun i : Itm => i.id.toList == id.toList) hq
      have hm := List.mem_of_find?_eq_some hq
      rw [riseI_uniq h hm hi ((tl_eq.1 hj).trans e.symm)]
  rw [hf]
theorem get_none {l : List Itm} {id : ByteArray} (h : ∀ i ∈ l, i.id ≠ id) : getI l id = (Itm.zero, false) := by
  unfold getI
  rw [show l.find? (fun i => i.id.toList == id.toList) = none from List.find?_eq_none.2 fun i hi hq => h i hi (tl_eq.1 hq)]
theorem get_cases (l : List Itm) (id : ByteArray) : (∃ i, i ∈ l ∧ i.id = id ∧ getI l id = (i, true)) ∨ ((∀ i ∈ l, i.id ≠ id) ∧ getI l id = (Itm.zero, false)) := by
  by_cases h : ∃ i ∈ l, i.id = id
  · obtain ⟨i, hi, e⟩ := h
    left
    unfold getI
    cases hq : l.find? (fun i => i.id.toList == id.toList) with
    | none => rw [List.find?_eq_none] at hq; exact absurd (tl_eq.2 e) (hq i hi)
    | some j => exact ⟨j, List.mem_of_find?_eq_some hq, tl_eq.1 (List.find?_some (p := fun i : Itm => i.id.toList == id.toList) hq), rfl⟩
  · right
    have h' : ∀ i ∈ l, i.id ≠ id := fun i hi e => h ⟨i, hi, e⟩
    exact ⟨h', get_none h'⟩
theorem get_same {l m : List Itm} {id : ByteArray} (hl : RiseI l) (h : ∀ i : Itm, i.id = id → (i ∈ l ↔ i ∈ m)) : getI m id = getI l id := by
  rcases get_cases m id with ⟨i, hi, e, hg⟩ | ⟨hn, hg⟩
  · rw [hg, get_some hl ((h i e).2 hi) e]
  · rw [hg, get_none fun i hi e => hn i ((h i e).1 hi) e]
theorem get_put {l : List Itm} {x : Itm} (h : RiseI l) (id : ByteArray) : getI (putI l x) id = if id = x.id then (x, true) else getI l id := by
  split
  · rename_i e; exact get_some (put_rise h) (mem_put.2 (.inl rfl)) e.symm
  · rename_i e
    refine get_same h fun i hi => ?_
    rw [mem_put]
    constructor
    · intro hm; exact .inr ⟨hm, fun e' => e (hi.symm.trans e')⟩
    · rintro (rfl | h)
      · exact absurd hi.symm e
      · exact h.1
theorem get_drop {l : List Itm} {x : ByteArray} (h : RiseI l) (id : ByteArray) : getI (l.filter (neB x)) id = if id = x then (Itm.zero, false) else getI l id := by
  split
  · rename_i e; exact get_none fun i hi e' => (mem_drop.1 hi).2 (e'.trans e)
  · rename_i e
    refine get_same h fun i hi => ?_
    rw [mem_drop]
    exact ⟨fun hm => ⟨hm, fun e' => e (hi.symm.trans e')⟩, fun hm => hm.1⟩

/-! ### All of both -/
theorem step_rise {f : Itm → Itm → Bool} {l : List Itm} {y : Itm} (h : RiseI l) : RiseI (stepI f l y) := by
  unfold stepI; split
  · exact put_rise h
  · exact h
theorem both_rise {f : Itm → Itm → Bool} (b : List Itm) : ∀ {a : List Itm}, RiseI a → RiseI (bothI f a b) := by
  induction b with
  | nil => intro a h; exact h
  | cons y b ih => intro a h; exact ih (step_rise h)
theorem both_mem {f : Itm → Itm → Bool} (b : List Itm) : ∀ {a : List Itm} {i : Itm}, i ∈ bothI f a b → i ∈ a ∨ i ∈ b := by
  induction b with
  | nil => intro a i h; exact .inl h
  | cons y b ih =>
    intro a i h
    have h' : i ∈ bothI f (stepI f a y) b := h
    rcases ih h' with h1 | h1
    · rcases step_mem h1 with h2 | h2
      · exact .inl h2
      · exact .inr (by simp [h2])
    · exact .inr (by simp [h1])
theorem get_step {f : Itm → Itm → Bool} {l : List Itm} {y : Itm} (h : RiseI l) (id : ByteArray) : getI (stepI f l y) id = if id = y.id then (if (!(getI l id).2 || f y (getI l id).1) = true then (y, true) else getI l id) else getI l id := by
  unfold stepI
  by_cases e : id = y.id
  · subst e
    rw [if_pos rfl]
    split
    · rw [get_put h, if_pos rfl]
    · rfl
  · rw [if_neg e]
    split
    · rw [get_put h, if_neg e]
    · rfl
theorem both_other {f : Itm → Itm → Bool} (b : List Itm) : ∀ {a : List Itm} {id : ByteArray}, RiseI a → (∀ i ∈ b, i.id ≠ id) → getI (bothI f a b) id = getI a id := by
  induction b with
  | nil => intro a id _ _; rfl
  | cons y b ih =>
    intro a id h hn
    have h' : getI (bothI f (stepI f a y) b) id = getI (stepI f a y) id := ih (step_rise h) fun i hi => hn i (by simp [hi])
    have : bothI f a (y :: b) = bothI f (stepI f a y) b := rfl
    rw [this, h', get_step h, if_neg (fun e => hn y (by simp) e.symm)]
theorem get_both {f : Itm → Itm → Bool} (b : List Itm) : ∀ {a : List Itm} (id : ByteArray), RiseI a → RiseI b → getI (bothI f a b) id = if (getI b id).2 = true then (if (!(getI a id).2 || f (getI b id).1 (getI a id).1) = true then ((getI b id).1, true) else getI a id) else getI a id := by
  induction b with
  | nil => intro a id _ _; rw [show getI [] id = (Itm.zero, false) from rfl]; rfl
  | cons y b ih =>
    intro a id ha hb
    rw [riseI_cons] at hb
    have e0 : bothI f a (y :: b) = bothI f (stepI f a y) b := rfl
    by_cases e : id = y.id
    · have hn : ∀ i ∈ b, i.id ≠ id := by
        intro i hi e'
        have := hb.1 i hi
        rw [e', e, ls_irr] at this; cases this
      have hg : getI (y :: b) id = (y, true) := get_some (riseI_cons.2 hb) (by simp) e.symm
      rw [e0, both_other b (step_rise ha) hn, get_step ha, if_pos e, hg, if_pos rfl]
    · have hg : getI (y :: b) id = getI b id := get_same hb.2 fun i hi => by
        constructor
        · intro h; simp [h]
        · intro h
          rcases List.mem_cons.1 h with rfl | h
          · exact absurd hi.symm e
          · exact h
      rw [e0, ih id (step_rise ha) hb.2, hg, get_step ha, if_neg e]

end Go.Proofs.Ytbojpdlidgmckaa
