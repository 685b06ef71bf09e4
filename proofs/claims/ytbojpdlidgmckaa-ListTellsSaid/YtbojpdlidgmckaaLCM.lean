/- Lists of items, searched and merged as the code does it: plain mathematics. No walk. -/
import Derived.Test.YtbojpdlidgmckaaListW
namespace Go.Proofs.Ytbojpdlidgmckaa
set_option linter.unusedVariables false
set_option linter.unusedSimpArgs false
open Go.RowKit

/-! ### Where an Id stands -/
def posI (l : List Itm) (id : ByteArray) : Nat := l.countP fun i => lsB i.id id
def hitI (l : List Itm) (id : ByteArray) : Bool := match l[posI l id]? with
  | some i => i.id.toList == id.toList
  | none => false
def toI (l : List Itm) (id : ByteArray) : Nat := if hitI l id = true then posI l id + 1 else posI l id
theorem pos_le (l : List Itm) (id : ByteArray) : posI l id ≤ l.length := List.countP_le_length
theorem pos_none {l : List Itm} {id : ByteArray} (h : ∀ i ∈ l, lsB i.id id = false) : posI l id = 0 := by
  unfold posI
  rw [List.countP_eq_zero]
  intro i hi; rw [h i hi]; simp
theorem pos_cons {a : Itm} {l : List Itm} {id : ByteArray} (h : RiseI (a :: l)) : posI (a :: l) id = if lsB a.id id = true then posI l id + 1 else 0 := by
  split
  · rename_i h1; unfold posI; rw [List.countP_cons_of_pos (p := fun i : Itm => lsB i.id id) h1]
  · rename_i h1
    refine pos_none fun i hi => ?_
    rw [riseI_cons] at h
    rcases List.mem_cons.1 hi with e | hi
    · subst e; simpa using h1
    · cases h2 : lsB i.id id with
      | false => rfl
      | true => exact absurd (ls_trans (h.1 i hi) h2) h1
theorem pos_iff {l : List Itm} {id : ByteArray} (h : RiseI l) : ∀ {j : Nat} {i : Itm}, l[j]? = some i → lsB i.id id = decide (j < posI l id) := by
  induction l with
  | nil => intro j i hj; simp at hj
  | cons a l ih =>
    intro j i hj
    rw [pos_cons h]
    have h' := riseI_cons.1 h
    cases j with
    | zero =>
      simp at hj; subst hj
      cases e : lsB a.id id <;> simp
    | succ j =>
      simp at hj
      rw [ih h'.2 hj]
      cases e : lsB a.id id with
      | true => simp
      | false =>
        have : posI l id = 0 := by
          refine pos_none fun i hi => ?_
          cases h2 : lsB i.id id with
          | false => rfl
          | true => rw [ls_trans (h'.1 i hi) h2] at e; cases e
        rw [this]; simp
theorem take_pos {l : List Itm} {id : ByteArray} (h : RiseI l) : l.take (posI l id) = l.filter fun i => lsB i.id id := by
  induction l with
  | nil => rfl
  | cons a l ih =>
    have h' := riseI_cons.1 h
    rw [pos_cons h]
    cases e : lsB a.id id with
    | true => simp [e, ih h'.2]
    | false =>
      have : (a :: l).filter (fun i => lsB i.id id) = [] := by
        rw [List.filter_eq_nil_iff]
        intro i hi h2
        rcases List.mem_cons.1 hi with q | hi
        · subst q; rw [e] at h2; cases h2
        · rw [ls_trans (h'.1 i hi) h2] at e; cases e
      rw [this]; simp
theorem hit_cons {a : Itm} {l : List Itm} {id : ByteArray} (h : RiseI (a :: l)) : hitI (a :: l) id = if lsB a.id id = true then hitI l id else (a.id.toList == id.toList) := by
  unfold hitI
  rw [pos_cons h]
  cases e : lsB a.id id with
  | true => simp only [if_true, List.getElem?_cons_succ]
  | false => simp only [Bool.false_eq_true, if_false, List.getElem?_cons_zero]
theorem drop_to {l : List Itm} {id : ByteArray} (h : RiseI l) : l.drop (toI l id) = l.filter fun i => gtB i.id id := by
  induction l with
  | nil => simp [toI]
  | cons a l ih =>
    have h' := riseI_cons.1 h
    have ih := ih h'.2
    unfold toI at *
    rw [hit_cons h, pos_cons h]
    cases e : lsB a.id id with
    | true =>
      simp only [if_true]
      have e2 : gtB a.id id = false := by rw [gt_eq]; exact ls_asym e
      rw [List.filter_cons_of_neg (by simp [e2]), ← ih]
      split <;> rfl
    | false =>
      have hall : ∀ i ∈ l, gtB i.id id = true := fun i hi => by
        rw [gt_eq]
        rcases ls_tri a.id id with h1 | h1 | h1
        · rw [h1] at e; cases e
        · rw [← h1]; exact h'.1 i hi
        · exact ls_trans h1 (h'.1 i hi)
      simp only [if_false, Bool.false_eq_true]
      cases e2 : (a.id.toList == id.toList) with
      | true =>
        have e3 : gtB a.id id = false := by rw [gt_eq, tl_eq.1 e2]; exact ls_irr _
        rw [List.filter_cons_of_neg (by simp [e3])]
        simp only [if_true, Nat.zero_add, List.drop_succ_cons, List.drop_zero]
        rw [List.filter_eq_self.2 hall]
      | false =>
        have e3 : gtB a.id id = true := by
          rw [gt_eq]
          rcases ls_tri a.id id with h1 | h1 | h1
          · rw [h1] at e; cases e
          · exact absurd h1 (tl_ne.1 e2)
          · exact h1
        rw [List.filter_cons_of_pos (by simp [e3]), List.filter_eq_self.2 hall]
        simp
theorem putI_span {l : List Itm} {x : Itm} (h : RiseI l) : l.take (posI l x.id) ++ ([x] ++ l.drop (toI l x.id)) = putI l x := by
  unfold putI
  rw [take_pos h, drop_to h, List.append_assoc]
theorem dropI_span {l : List Itm} {id : ByteArray} (h : RiseI l) : l.take (posI l id) ++ l.drop (toI l id) = l.filter (neB id) := by
  rw [take_pos h, drop_to h]
  induction l with
  | nil => rfl
  | cons a l ih =>
    have h' := riseI_cons.1 h
    have ih := ih h'.2
    rcases ls_tri a.id id with h1 | h1 | h1
    · have e2 : gtB a.id id = false := by rw [gt_eq]; exact ls_asym h1
      have e3 : neB id a = true := by unfold neB; rw [Bool.not_eq_true', tl_ne]; exact ls_ne h1
      rw [List.filter_cons_of_pos (by simp [h1]), List.filter_cons_of_neg (by simp [e2]), List.filter_cons_of_pos (by simp [e3]), List.cons_append, ih]
    · have e1 : lsB a.id id = false := by rw [h1]; exact ls_irr _
      have e2 : gtB a.id id = false := by rw [gt_eq, h1]; exact ls_irr _
      have e3 : neB id a = false := by unfold neB; rw [Bool.not_eq_false', tl_eq]; exact h1
      rw [List.filter_cons_of_neg (by simp [e1]), List.filter_cons_of_neg (by simp [e2]), List.filter_cons_of_neg (by simp [e3]), ih]
    · have e1 : lsB a.id id = false := ls_asym h1
      have e2 : gtB a.id id = true := by rw [gt_eq]; exact h1
      have e3 : neB id a = true := by unfold neB; rw [Bool.not_eq_true', tl_ne]; exact fun q => ls_ne h1 q.symm
      have hn : l.filter (fun i => lsB i.id id) = [] := by
        rw [List.filter_eq_nil_iff]
        intro i hi h2
        rw [ls_asym (ls_trans h1 (h'.1 i hi))] at h2; cases h2
      rw [hn] at ih
      rw [List.filter_cons_of_neg (by simp [e1]), List.filter_cons_of_pos (by simp [e2]), List.filter_cons_of_pos (by simp [e3]), hn, List.nil_append, ← ih, List.nil_append]
theorem getI_hit {l : List Itm} {id : ByteArray} (h : RiseI l) (hh : hitI l id = true) : ∃ i, l[posI l id]? = some i ∧ getI l id = (i, true) := by
  unfold hitI at hh
  cases e : l[posI l id]? with
  | none => rw [e] at hh; cases hh
  | some i =>
    rw [e] at hh
    exact ⟨i, rfl, get_some h (List.mem_of_getElem? e) (tl_eq.1 hh)⟩
theorem getI_miss {l : List Itm} {id : ByteArray} (h : RiseI l) (hh : hitI l id = false) : getI l id = (Itm.zero, false) := by
  refine get_none fun i hi e => ?_
  obtain ⟨j, hj, e'⟩ := List.mem_iff_getElem.1 hi
  have hj9 : l[j]? = some i := by rw [List.getElem?_eq_getElem hj, e']
  have h1 := pos_iff (id := id) h hj9
  rw [e, ls_irr] at h1
  have hge : posI l id ≤ j := by
    have := of_decide_eq_false h1.symm; omega
  by_cases hq : posI l id = j
  · unfold hitI at hh; rw [hq, hj9] at hh
    have hh' : (i.id.toList == id.toList) = false := hh
    rw [tl_eq.2 e] at hh'; cases hh'
  · obtain ⟨p, hp⟩ : ∃ p, l[posI l id]? = some p := ⟨_, List.getElem?_eq_getElem (by omega)⟩
    have h2 := pos_iff (id := id) h hp
    rw [decide_eq_false (by omega)] at h2
    have h3 : lsB p.id i.id = true := by
      have hpw := h
      unfold RiseI Rise at hpw
      rw [List.pairwise_map] at hpw
      have hp' := (List.getElem?_eq_some_iff.1 hp)
      have := List.pairwise_iff_getElem.1 hpw (posI l id) j hp'.1 hj (by omega)
      rw [hp'.2, e'] at this
      exact this
    rw [e, h2] at h3; cases h3

/-! ### Two lists merged -/
def mrgI (f : Itm → Itm → Bool) : List Itm → List Itm → List Itm
  | [], m => m
  | l, [] => l
  | x :: l, y :: m => if lsB x.id y.id = true then x :: mrgI f l (y :: m) else if lsB y.id x.id = true then y :: mrgI f (x :: l) m else (if f y x = true then y else x) :: mrgI f l m
  termination_by l m => l.length + m.length
theorem mrg_nil_l (f : Itm → Itm → Bool) (m : List Itm) : mrgI f [] m = m := by rw [mrgI]
theorem mrg_nil_r (f : Itm → Itm → Bool) (l : List Itm) : mrgI f l [] = l := by cases l <;> rw [mrgI]; simp
theorem mrg_cons (f : Itm → Itm → Bool) (x y : Itm) (l m : List Itm) : mrgI f (x :: l) (y :: m) = if lsB x.id y.id = true then x :: mrgI f l (y :: m) else if lsB y.id x.id = true then y :: mrgI f (x :: l) m else (if f y x = true then y else x) :: mrgI f l m := by rw [mrgI]
theorem riseI_ext {l m : List Itm} (hl : RiseI l) (hm : RiseI m) (h : ∀ i, i ∈ l ↔ i ∈ m) : l = m := by
  induction l generalizing m with
  | nil =>
    cases m with
    | nil => rfl
    | cons b m => have := (h b).2 (by simp); simp at this
  | cons a l ih =>
    cases m with
    | nil => have := (h a).1 (by simp); simp at this
    | cons b m =>
      rw [riseI_cons] at hl hm
      have e : a = b := by
        rcases List.mem_cons.1 ((h a).1 (by simp)) with e | ha
        · exact e
        rcases List.mem_cons.1 ((h b).2 (by simp)) with e | hb
        · exact e.symm
        have := ls_trans (hl.1 b hb) (hm.1 a ha)
        rw [ls_irr] at this; cases this
      subst e
      congr 1
      refine ih hl.2 hm.2 fun i => ⟨fun hi => ?_, fun hi => ?_⟩
      · rcases List.mem_cons.1 ((h i).1 (by simp [hi])) with e | h'
        · subst e; have := hl.1 i hi; rw [ls_irr] at this; cases this
        · exact h'
      · rcases List.mem_cons.1 ((h i).2 (by simp [hi])) with e | h'
        · subst e; have := hm.1 i hi; rw [ls_irr] at this; cases this
        · exact h'
theorem get_iff {l : List Itm} {i : Itm} (h : RiseI l) : i ∈ l ↔ getI l i.id = (i, true) := by
  constructor
  · intro hi; exact get_some h hi rfl
  · intro hg
    rcases get_cases l i.id with ⟨j, hj, _, e⟩ | ⟨_, e⟩
    · rw [e] at hg; cases hg; exact hj
    · rw [e] at hg; exact absurd (congrArg Prod.snd hg) (by simp)
theorem riseI_get {l m : List Itm} (hl : RiseI l) (hm : RiseI m) (h : ∀ id, getI l id = getI m id) : l = m :=
  riseI_ext hl hm fun i => by rw [get_iff hl, get_iff hm, h]
theorem getI_cons (a : Itm) (l : List Itm) (id : ByteArray) : getI (a :: l) id = if a.id = id then (a, true) else getI l id := by
  unfold getI
  rw [List.find?_cons]
  cases h : (a.id.toList == id.toList) with
  | true => rw [if_pos (tl_eq.1 h)]
  | false => rw [if_neg (tl_ne.1 h)]
theorem mrg_mem {f : Itm → Itm → Bool} : ∀ {n : Nat} {l m : List Itm} {i : Itm}, l.length + m.length ≤ n → i ∈ mrgI f l m → i ∈ l ∨ i ∈ m := by
  intro n
  induction n with
  | zero =>
    intro l m i hn hi
    have : l = [] := List.length_eq_zero_iff.1 (by omega)
    subst this; rw [mrg_nil_l] at hi; exact .inr hi
  | succ n ih =>
    intro l m i hn hi
    cases l with
    | nil => rw [mrg_nil_l] at hi; exact .inr hi
    | cons x l =>
      cases m with
      | nil => rw [mrg_nil_r] at hi; exact .inl hi
      | cons y m =>
        simp only [List.length_cons] at hn
        rw [mrg_cons] at hi
        split at hi
        · rcases List.mem_cons.1 hi with e | hi
          · subst e; exact .inl (by simp)
          · rcases ih (by simp only [List.length_cons]; omega) hi with h | h
            · exact .inl (by simp [h])
            · exact .inr h
        · split at hi
          · rcases List.mem_cons.1 hi with e | hi
            · subst e; exact .inr (by simp)
            · rcases ih (by simp only [List.length_cons]; omega) hi with h | h
              · exact .inl h
              · exact .inr (by simp [h])
          · rcases List.mem_cons.1 hi with e | hi
            · subst e; split
              · exact .inr (by simp)
              · exact .inl (by simp)
            · rcases ih (by omega) hi with h | h
              · exact .inl (by simp [h])
              · exact .inr (by simp [h])
theorem mrg_rise {f : Itm → Itm → Bool} : ∀ {n : Nat} {l m : List Itm}, l.length + m.length ≤ n → RiseI l → RiseI m → RiseI (mrgI f l m) := by
  intro n
  induction n with
  | zero =>
    intro l m hn hl hm
    have : l = [] := List.length_eq_zero_iff.1 (by omega)
    subst this; rw [mrg_nil_l]; exact hm
  | succ n ih =>
    intro l m hn hl hm
    cases l with
    | nil => rw [mrg_nil_l]; exact hm
    | cons x l =>
      cases m with
      | nil => rw [mrg_nil_r]; exact hl
      | cons y m =>
        simp only [List.length_cons] at hn
        have hl' := riseI_cons.1 hl
        have hm' := riseI_cons.1 hm
        rw [mrg_cons]
        split
        · rename_i h1
          refine riseI_cons.2 ⟨fun i hi => ?_, ih (by simp only [List.length_cons]; omega) hl'.2 hm⟩
          rcases mrg_mem (Nat.le_refl _) hi with h | h
          · exact hl'.1 i h
          · rcases List.mem_cons.1 h with e | h
            · subst e; exact h1
            · exact ls_trans h1 (hm'.1 i h)
        · rename_i h1
          split
          · rename_i h2
            refine riseI_cons.2 ⟨fun i hi => ?_, ih (by simp only [List.length_cons]; omega) hl hm'.2⟩
            rcases mrg_mem (Nat.le_refl _) hi with h | h
            · rcases List.mem_cons.1 h with e | h
              · subst e; exact h2
              · exact ls_trans h2 (hl'.1 i h)
            · exact hm'.1 i h
          · rename_i h2
            have e : x.id = y.id := by
              rcases ls_tri x.id y.id with q | q | q
              · exact absurd q h1
              · exact q
              · exact absurd q h2
            refine riseI_cons.2 ⟨fun i hi => ?_, ih (by omega) hl'.2 hm'.2⟩
            have e2 : (if f y x = true then y else x).id = x.id := by split; exact e.symm; rfl
            rw [e2]
            rcases mrg_mem (Nat.le_refl _) hi with h | h
            · exact hl'.1 i h
            · rw [e]; exact hm'.1 i h
theorem get_below {x : Itm} {l : List Itm} {id : ByteArray} (h : ∀ i ∈ l, lsB x.id i.id = true) (hid : id = x.id ∨ lsB id x.id = true) : getI l id = (Itm.zero, false) := by
  refine get_none fun i hi e => ?_
  have := h i hi
  rw [e] at this
  rcases hid with q | q
  · rw [q, ls_irr] at this; cases this
  · have := ls_trans q this; rw [ls_irr] at this; cases this
theorem get_mrg {f : Itm → Itm → Bool} : ∀ {n : Nat} {l m : List Itm} (id : ByteArray), l.length + m.length ≤ n → RiseI l → RiseI m → getI (mrgI f l m) id = if (getI m id).2 = true then (if (!(getI l id).2 || f (getI m id).1 (getI l id).1) = true then ((getI m id).1, true) else getI l id) else getI l id := by
  intro n
  have nl : ∀ m : List Itm, ∀ id : ByteArray, getI m id = if (getI m id).2 = true then (if (!(getI [] id).2 || f (getI m id).1 (getI [] id).1) = true then ((getI m id).1, true) else getI [] id) else getI [] id := by
    intro m id
    rw [show getI [] id = (Itm.zero, false) from rfl]
    rcases get_cases m id with ⟨j, _, _, e⟩ | ⟨_, e⟩
    · rw [e]; simp
    · rw [e]; simp
  induction n with
  | zero =>
    intro l m id hn hl hm
    have : l = [] := List.length_eq_zero_iff.1 (by omega)
    subst this; rw [mrg_nil_l]; exact nl m id
  | succ n ih =>
    intro l m id hn hl hm
    cases l with
    | nil => rw [mrg_nil_l]; exact nl m id
    | cons x l =>
      cases m with
      | nil => rw [mrg_nil_r, show getI [] id = (Itm.zero, false) from rfl]; simp
      | cons y m =>
        simp only [List.length_cons] at hn
        have hl' := riseI_cons.1 hl
        have hm' := riseI_cons.1 hm
        rw [mrg_cons]
        split
        · rename_i h1
          rw [getI_cons, ih id (by simp only [List.length_cons]; omega) hl'.2 hm, getI_cons x l id]
          by_cases e : x.id = id
          · rw [if_pos e, if_pos e]
            have : getI (y :: m) id = (Itm.zero, false) := get_below (x := x) (fun i hi => by
              rcases List.mem_cons.1 hi with q | hi
              · rw [q]; exact h1
              · exact ls_trans h1 (hm'.1 i hi)) (.inl e.symm)
            rw [this]; simp
          · rw [if_neg e, if_neg e]
        · rename_i h1
          split
          · rename_i h2
            rw [getI_cons, ih id (by simp only [List.length_cons]; omega) hl hm'.2, getI_cons y m id]
            by_cases e : y.id = id
            · rw [if_pos e, if_pos e]
              have : getI (x :: l) id = (Itm.zero, false) := get_below (x := y) (fun i hi => by
                rcases List.mem_cons.1 hi with q | hi
                · rw [q]; exact h2
                · exact ls_trans h2 (hl'.1 i hi)) (.inl e.symm)
              rw [this]; simp
            · rw [if_neg e, if_neg e]
          · rename_i h2
            have e : x.id = y.id := by
              rcases ls_tri x.id y.id with q | q | q
              · exact absurd q h1
              · exact q
              · exact absurd q h2
            rw [getI_cons, ih id (by omega) hl'.2 hm'.2, getI_cons x l id, getI_cons y m id]
            have e2 : (if f y x = true then y else x).id = x.id := by split; exact e.symm; rfl
            rw [e2]
            by_cases q : x.id = id
            · rw [if_pos q, if_pos q, if_pos (e.symm.trans q)]
              cases hf : f y x <;> simp [hf]
            · rw [if_neg q, if_neg q, if_neg (fun h => q (e.trans h))]
theorem mrg_both {f : Itm → Itm → Bool} {l m : List Itm} (hl : RiseI l) (hm : RiseI m) : mrgI f l m = bothI f l m :=
  riseI_get (mrg_rise (Nat.le_refl _) hl hm) (both_rise m hl) fun id => by rw [get_mrg id (Nat.le_refl _) hl hm, get_both m id hl hm]

end Go.Proofs.Ytbojpdlidgmckaa
