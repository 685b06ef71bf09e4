/- Joined: LCM, KText, Keys, KGreat, LCmp. -/
import Derived.Test.YthbjgfennclidaaGreatJ10
import Derived.Test.YthbjgfennclidaaGreatJ06
import Derived.Test.YthbjgfennclidaaGreatJ05
import Derived.Shelf.SlIter.Nil
import Derived.Shelf.SortM.Plain
import Derived.Shelf.SortM.SortNone
import Derived.Test.YthbjgfennclidaaGreatJ15
import Derived.Test.YthbjgfennclidaaGreatJ03
import Derived.Test.YthbjgfennclidaaGreatJ07
/- Lists of items, searched and merged as the code does it: plain mathematics. No walk. -/
namespace Go.Proofs.YthbjgfennclidaaGreat
set_option linter.unusedVariables false
set_option linter.unusedSimpArgs false
set_option maxRecDepth 100000
open Go.RowKit
/-! ### Where an Id stands -/
def posI (l : List Itm) (id : ByteArray) : Nat := l.countP fun i => lsB i.id id
def hitI (l : List Itm) (id : ByteArray) : Bool := match l[posI l id]? with
  | some i => i.id.toList == id.toList
  | none => false
def toI (l : List Itm) (id : ByteArray) : Nat := if hitI l id = true then posI l id + 1 else posI l id
theorem pos_le (l : List Itm) (id : ByteArray) : posI l id ≤ l.length := List.countP_le_length
theorem pos_none {l : List Itm} {id : ByteArray} (h : ∀ i ∈ l, lsB i.id id = false) : posI l id = 0 := by
  unfold posI
  rw [List.countP_eq_zero]
  intro i hi; rw [h i hi]; simp
theorem pos_cons {a : Itm} {l : List Itm} {id : ByteArray} (h : RiseI (a :: l)) : posI (a :: l) id = if lsB a.id id = true then posI l id + 1 else 0 := by
  split
  · rename_i h1; unfold posI; rw [List.countP_cons_of_pos (p := fun i : Itm => lsB i.id id) h1]
  · rename_i h1
    refine pos_none fun i hi => ?_
    rw [riseI_cons] at h
    rcases List.mem_cons.1 hi with e | hi
    · subst e; simpa using h1
    · cases h2 : lsB i.id id with
      | false => rfl
      | true => exact absurd (ls_trans (h.1 i hi) h2) h1
theorem pos_iff {l : List Itm} {id : ByteArray} (h : RiseI l) : ∀ {j : Nat} {i : Itm}, l[j]? = some i → lsB i.id id = decide (j < posI l id) := by
  induction l with
  | nil => intro j i hj; simp at hj
  | cons a l ih =>
    intro j i hj
    rw [pos_cons h]
    have h' := riseI_cons.1 h
    cases j with
    | zero =>
      simp at hj; subst hj
      cases e : lsB a.id id <;> simp
    | succ j =>
      simp at hj
      rw [ih h'.2 hj]
      cases e : lsB a.id id with
      | true => simp
      | false =>
        have : posI l id = 0 := by
          refine pos_none fun i hi => ?_
          cases h2 : lsB i.id id with
          | false => rfl
          | true => rw [ls_trans (h'.1 i hi) h2] at e; cases e
        rw [this]; simp
theorem getI_hit {l : List Itm} {id : ByteArray} (h : RiseI l) (hh : hitI l id = true) : ∃ i, l[posI l id]? = some i ∧ getI l id = (i, true) := by
  unfold hitI at hh
  cases e : l[posI l id]? with
  | none => rw [e] at hh; cases hh
  | some i =>
    rw [e] at hh
    exact ⟨i, rfl, get_some h (List.mem_of_getElem? e) (tl_eq.1 hh)⟩
theorem getI_miss {l : List Itm} {id : ByteArray} (h : RiseI l) (hh : hitI l id = false) : getI l id = (Itm.zero, false) := by
  refine get_none fun i hi e => ?_
  obtain ⟨j, hj, e'⟩ := List.mem_iff_getElem.1 hi
  have hj9 : l[j]? = some i := by rw [List.getElem?_eq_getElem hj, e']
  have h1 := pos_iff (id := id) h hj9
  rw [e, ls_irr] at h1
  have hge : posI l id ≤ j := by
    have := of_decide_eq_false h1.symm; omega
  by_cases hq : posI l id = j
  · unfold hitI at hh; rw [hq, hj9] at hh
    have hh' : (i.id.toList == id.toList) = false := hh
    rw [tl_eq.2 e] at hh'; cases hh'
  · obtain ⟨p, hp⟩ : ∃ p, l[posI l id]? = some p := ⟨_, List.getElem?_eq_getElem (by omega)⟩
    have h2 := pos_iff (id := id) h hp
    rw [decide_eq_false (by omega)] at h2
    have h3 : lsB p.id i.id = true := by
      have hpw := h
      unfold RiseI Rise at hpw
      rw [List.pairwise_map] at hpw
      have hp' := (List.getElem?_eq_some_iff.1 hp)
      have := List.pairwise_iff_getElem.1 hpw (posI l id) j hp'.1 hj (by omega)
      rw [hp'.2, e'] at this
      exact this
    rw [e, h2] at h3; cases h3
/-! ### Two lists merged -/
def mrgI (f : Itm → Itm → Bool) : List Itm → List Itm → List Itm
  | [], m => m
  | l, [] => l
  | x :: l, y :: m => if lsB x.id y.id = true then x :: mrgI f l (y :: m) else if lsB y.id x.id = true then y :: mrgI f (x :: l) m else (if f y x = true then y else x) :: mrgI f l m
  termination_by l m => l.length + m.length
theorem mrg_nil_l (f : Itm → Itm → Bool) (m : List Itm) : mrgI f [] m = m := by rw [mrgI]
theorem mrg_nil_r (f : Itm → Itm → Bool) (l : List Itm) : mrgI f l [] = l := by cases l <;> rw [mrgI]; simp
theorem mrg_cons (f : Itm → Itm → Bool) (x y : Itm) (l m : List Itm) : mrgI f (x :: l) (y :: m) = if lsB x.id y.id = true then x :: mrgI f l (y :: m) else if lsB y.id x.id = true then y :: mrgI f (x :: l) m else (if f y x = true then y else x) :: mrgI f l m := by rw [mrgI]
theorem riseI_ext {l m : List Itm} (hl : RiseI l) (hm : RiseI m) (h : ∀ i, i ∈ l ↔ i ∈ m) : l = m := by
  induction l generalizing m with
  | nil =>
    cases m with
    | nil => rfl
    | cons b m => have := (h b).2 (by simp); simp at this
  | cons a l ih =>
    cases m with
    | nil => have := (h a).1 (by simp); simp at this
    | cons b m =>
      rw [riseI_cons] at hl hm
      have e : a = b := by
        rcases List.mem_cons.1 ((h a).1 (by simp)) with e | ha
        · exact e
        rcases List.mem_cons.1 ((h b).2 (by simp)) with e | hb
        · exact e.symm
        have := ls_trans (hl.1 b hb) (hm.1 a ha)
        rw [ls_irr] at this; cases this
      subst e
      congr 1
      refine ih hl.2 hm.2 fun i => ⟨fun hi => ?_, fun hi => ?_⟩
      · rcases List.mem_cons.1 ((h i).1 (by simp [hi])) with e | h'
        · subst e; have := hl.1 i hi; rw [ls_irr] at this; cases this
        · exact h'
      · rcases List.mem_cons.1 ((h i).2 (by simp [hi])) with e | h'
        · subst e; have := hm.1 i hi; rw [ls_irr] at this; cases this
        · exact h'
theorem get_iff {l : List Itm} {i : Itm} (h : RiseI l) : i ∈ l ↔ getI l i.id = (i, true) := by
  constructor
  · intro hi; exact get_some h hi rfl
  · intro hg
    rcases get_cases l i.id with ⟨j, hj, _, e⟩ | ⟨_, e⟩
    · rw [e] at hg; cases hg; exact hj
    · rw [e] at hg; exact absurd (congrArg Prod.snd hg) (by simp)
theorem riseI_get {l m : List Itm} (hl : RiseI l) (hm : RiseI m) (h : ∀ id, getI l id = getI m id) : l = m :=
  riseI_ext hl hm fun i => by rw [get_iff hl, get_iff hm, h]
theorem getI_cons (a : Itm) (l : List Itm) (id : ByteArray) : getI (a :: l) id = if a.id = id then (a, true) else getI l id := by
  unfold getI
  rw [List.find?_cons]
  cases h : (a.id.toList == id.toList) with
  | true => rw [if_pos (tl_eq.1 h)]
  | false => rw [if_neg (tl_ne.1 h)]
theorem mrg_mem {f : Itm → Itm → Bool} : ∀ {n : Nat} {l m : List Itm} {i : Itm}, l.length + m.length ≤ n → i ∈ mrgI f l m → i ∈ l ∨ i ∈ m := by
  intro n
  induction n with
  | zero =>
    intro l m i hn hi
    have : l = [] := List.length_eq_zero_iff.1 (by omega)
    subst this; rw [mrg_nil_l] at hi; exact .inr hi
  | succ n ih =>
    intro l m i hn hi
    cases l with
    | nil => rw [mrg_nil_l] at hi; exact .inr hi
    | cons x l =>
      cases m with
      | nil => rw [mrg_nil_r] at hi; exact .inl hi
      | cons y m =>
        simp only [List.length_cons] at hn
        rw [mrg_cons] at hi
        split at hi
        · rcases List.mem_cons.1 hi with e | hi
          · subst e; exact .inl (by simp)
          · rcases ih (by simp only [List.length_cons]; omega) hi with h | h
            · exact .inl (by simp [h])
            · exact .inr h
        · split at hi
          · rcases List.mem_cons.1 hi with e | hi
            · subst e; exact .inr (by simp)
            · rcases ih (by simp only [List.length_cons]; omega) hi with h | h
              · exact .inl h
              · exact .inr (by simp [h])
          · rcases List.mem_cons.1 hi with e | hi
            · subst e; split
              · exact .inr (by simp)
              · exact .inl (by simp)
            · rcases ih (by omega) hi with h | h
              · exact .inl (by simp [h])
              · exact .inr (by simp [h])
theorem mrg_rise {f : Itm → Itm → Bool} : ∀ {n : Nat} {l m : List Itm}, l.length + m.length ≤ n → RiseI l → RiseI m → RiseI (mrgI f l m) := by
  intro n
  induction n with
  | zero =>
    intro l m hn hl hm
    have : l = [] := List.length_eq_zero_iff.1 (by omega)
    subst this; rw [mrg_nil_l]; exact hm
  | succ n ih =>
    intro l m hn hl hm
    cases l with
    | nil => rw [mrg_nil_l]; exact hm
    | cons x l =>
      cases m with
      | nil => rw [mrg_nil_r]; exact hl
      | cons y m =>
        simp only [List.length_cons] at hn
        have hl' := riseI_cons.1 hl
        have hm' := riseI_cons.1 hm
        rw [mrg_cons]
        split
        · rename_i h1
          refine riseI_cons.2 ⟨fun i hi => ?_, ih (by simp only [List.length_cons]; omega) hl'.2 hm⟩
          rcases mrg_mem (Nat.le_refl _) hi with h | h
          · exact hl'.1 i h
          · rcases List.mem_cons.1 h with e | h
            · subst e; exact h1
            · exact ls_trans h1 (hm'.1 i h)
        · rename_i h1
          split
          · rename_i h2
            refine riseI_cons.2 ⟨fun i hi => ?_, ih (by simp only [List.length_cons]; omega) hl hm'.2⟩
            rcases mrg_mem (Nat.le_refl _) hi with h | h
            · rcases List.mem_cons.1 h with e | h
              · subst e; exact h2
              · exact ls_trans h2 (hl'.1 i h)
            · exact hm'.1 i h
          · rename_i h2
            have e : x.id = y.id := by
              rcases ls_tri x.id y.id with q | q | q
              · exact absurd q h1
              · exact q
              · exact absurd q h2
            refine riseI_cons.2 ⟨fun i hi => ?_, ih (by omega) hl'.2 hm'.2⟩
            have e2 : (if f y x = true then y else x).id = x.id := by split; exact e.symm; rfl
            rw [e2]
            rcases mrg_mem (Nat.le_refl _) hi with h | h
            · exact hl'.1 i h
            · rw [e]; exact hm'.1 i h
theorem get_below {x : Itm} {l : List Itm} {id : ByteArray} (h : ∀ i ∈ l, lsB x.id i.id = true) (hid : id = x.id ∨ lsB id x.id = true) : getI l id = (Itm.zero, false) := by
  refine get_none fun i hi e => ?_
  have := h i hi
  rw [e] at this
  rcases hid with q | q
  · rw [q, ls_irr] at this; cases this
  · have := ls_trans q this; rw [ls_irr] at this; cases this
theorem get_mrg {f : Itm → Itm → Bool} : ∀ {n : Nat} {l m : List Itm} (id : ByteArray), l.length + m.length ≤ n → RiseI l → RiseI m → getI (mrgI f l m) id = if (getI m id).2 = true then (if (!(getI l id).2 || f (getI m id).1 (getI l id).1) = true then ((getI m id).1, true) else getI l id) else getI l id := by
  intro n
  have nl : ∀ m : List Itm, ∀ id : ByteArray, getI m id = if (getI m id).2 = true then (if (!(getI [] id).2 || f (getI m id).1 (getI [] id).1) = true then ((getI m id).1, true) else getI [] id) else getI [] id := by
    intro m id
    rw [show getI [] id = (Itm.zero, false) from rfl]
    rcases get_cases m id with ⟨j, _, _, e⟩ | ⟨_, e⟩
    · rw [e]; simp
    · rw [e]; simp
  induction n with
  | zero =>
    intro l m id hn hl hm
    have : l = [] := List.length_eq_zero_iff.1 (by omega)
    subst this; rw [mrg_nil_l]; exact nl m id
  | succ n ih =>
    intro l m id hn hl hm
    cases l with
    | nil => rw [mrg_nil_l]; exact nl m id
    | cons x l =>
      cases m with
      | nil => rw [mrg_nil_r, show getI [] id = (Itm.zero, false) from rfl]; simp
      | cons y m =>
        simp only [List.length_cons] at hn
        have hl' := riseI_cons.1 hl
        have hm' := riseI_cons.1 hm
        rw [mrg_cons]
        split
        · rename_i h1
          rw [getI_cons, ih id (by simp only [List.length_cons]; omega) hl'.2 hm, getI_cons x l id]
          by_cases e : x.id = id
          · rw [if_pos e, if_pos e]
            have : getI (y :: m) id = (Itm.zero, false) := get_below (x := x) (fun i hi => by
              rcases List.mem_cons.1 hi with q | hi
              · rw [q]; exact h1
              · exact ls_trans h1 (hm'.1 i hi)) (.inl e.symm)
            rw [this]; simp
          · rw [if_neg e, if_neg e]
        · rename_i h1
          split
          · rename_i h2
            rw [getI_cons, ih id (by simp only [List.length_cons]; omega) hl hm'.2, getI_cons y m id]
            by_cases e : y.id = id
            · rw [if_pos e, if_pos e]
              have : getI (x :: l) id = (Itm.zero, false) := get_below (x := y) (fun i hi => by
                rcases List.mem_cons.1 hi with q | hi
                · rw [q]; exact h2
                · exact ls_trans h2 (hl'.1 i hi)) (.inl e.symm)
              rw [this]; simp
            · rw [if_neg e, if_neg e]
          · rename_i h2
            have e : x.id = y.id := by
              rcases ls_tri x.id y.id with q | q | q
              · exact absurd q h1
              · exact q
              · exact absurd q h2
            rw [getI_cons, ih id (by omega) hl'.2 hm'.2, getI_cons x l id, getI_cons y m id]
            have e2 : (if f y x = true then y else x).id = x.id := by split; exact e.symm; rfl
            rw [e2]
            by_cases q : x.id = id
            · rw [if_pos q, if_pos q, if_pos (e.symm.trans q)]
              cases hf : f y x <;> simp [hf]
            · rw [if_neg q, if_neg q, if_neg (fun h => q (e.trans h))]
theorem mrg_both {f : Itm → Itm → Bool} {l m : List Itm} (hl : RiseI l) (hm : RiseI m) : mrgI f l m = bothI f l m :=
  riseI_get (mrg_rise (Nat.le_refl _) hl hm) (both_rise m hl) fun id => by rw [get_mrg id (Nat.le_refl _) hl hm, get_both m id hl hm]
end Go.Proofs.YthbjgfennclidaaGreat
/- Texts in lists: slices.Index, Contains, Equal of texts; slices.ContainsFunc over odd's closure. Walked. -/
namespace Go.Proofs.YthbjgfennclidaaGreat
set_option linter.unusedVariables false
set_option linter.unusedSimpArgs false
set_option maxRecDepth 100000
open Go.RowKit
theorem among_take_step {l : List ByteArray} {k : Nat} {s x : ByteArray} (hx : l[k]? = some x) (h : amongB (l.take k) s = false) (hs : (s.toList == x.toList) = false) : amongB (l.take (k + 1)) s = false := by
  rw [takeT hx]
  unfold amongB at *
  rw [List.any_append, h]
  simp only [List.any_cons, List.any_nil, Bool.or_false, Bool.false_or]
  rw [tl_ne] at hs ⊢
  exact fun e => hs e.symm
theorem among_take_hit {l : List ByteArray} {k : Nat} {s x : ByteArray} (hx : l[k]? = some x) (hs : (s.toList == x.toList) = true) : amongB l s = true := by
  rw [tl_eq] at hs; subst hs
  exact among_iff.2 (List.mem_of_getElem? hx)
def KIdxRel (l : List ByteArray) (s : ByteArray) (n : Nat) (w0 : World) (i : Value) (wr : World) : Prop := ∃ k : Nat, k ≤ n ∧ i = .int .i64 k ∧ Hid (amongB (l.take k) s = false) ∧ Hid (w0 = wr)
set_option maxHeartbeats 2000000 in
theorem indexT_calls (l : List ByteArray) (v : Value) (s : ByteArray) (w : World) (hT : TxW w l v) :
    Calls Tryz.prog 208 #[v, .string s] w fun e w' => ∃ n : Int, e = .returned (.int .i64 n) ∧ decide (0 ≤ n) = amongB l s ∧ w' = w := by
  obtain ⟨oa, cap, b, o, rfl, hT⟩ := hT
  have h1 := hT.len
  have h2 := hT.max
  unfold maxLen at h2
  have HT := Lib.hid hT
  clear hT
  generalize hn : l.length = n at *
  have HN := Lib.hid hn
  clear hn
  go_enter Tryz.func208, Tryz.ntmps208
  go_wp2_with fail
  go_loopw [8] (fun i wr => KIdxRel l s n w i wr) (fun i _ => n - (intOf i).toNat)
  case atStart => exact ⟨0, Nat.zero_le _, rfl, by simp [Hid, amongB], rfl⟩
  case round =>
    obtain ⟨k, hk, rfl, HS, hw⟩ := hrel
    have ew := hw.out
    subst ew
    clear hw
    by_cases hlt : k < n
    · obtain ⟨x, hx⟩ : ∃ x, l[k]? = some x := ⟨_, List.getElem?_eq_getElem (by rw [HN.out]; exact hlt)⟩
      obtain ⟨rfl, hb⟩ := HT.out.at0 (by rw [HN.out]; omega)
      have c0 := HT.out.cell k x hx
      cases hs : (s.toList == x.toList)
      · have HF := Lib.hid (among_take_step hx HS.out hs)
        clear HS
        go_wp2_with fail
        go_roundw
        case rel => exact ⟨k + 1, by omega, by go_num, HF, rfl⟩
        case measure => simp [intOf]; omega
      · have HF := Lib.hid (among_take_hit hx hs)
        clear HS
        go_wp2_with fail
        go_ret
        exact ⟨_, rfl, by rw [HF.out]; simp, rfl⟩
    · have h := HS.out
      rw [List.take_of_length_le (by rw [HN.out]; omega)] at h
      have HF := Lib.hid h
      clear h HS
      go_wp2_with fail
      go_ret
      exact ⟨_, rfl, by rw [HF.out]; simp, rfl⟩
set_option maxHeartbeats 1000000 in
theorem containsT_calls (l : List ByteArray) (v : Value) (s : ByteArray) (w : World) (hT : TxW w l v) :
    Calls Tryz.prog 171 #[v, .string s] w fun e w' => e = .returned (.bool (amongB l s)) ∧ w' = w := by
  have C := Lib.hid (indexT_calls l v s w hT)
  obtain ⟨oa, cap, rfl⟩ := hT.val
  clear hT
  go_enter Tryz.func171, Tryz.ntmps171
  go_wp2_with (go_at_call 208; refine C.out.mono ?_; rintro e w' ⟨n, rfl, hn, rfl⟩)
  go_ret
  first | exact ⟨ret_bool hn, rfl⟩ | exact ⟨rfl, rfl⟩
/-! ### Two lists of texts, alike -/
def KEqRel (l m : List ByteArray) (n : Nat) (w0 : World) (i : Value) (wr : World) : Prop := ∃ k : Nat, k ≤ n ∧ i = .int .i64 k ∧ Hid (∀ j, j < k → l[j]? = m[j]?) ∧ Hid (Below w0.heap.size w0 wr)
theorem keqIds_iff : ∀ {l m : List ByteArray}, eqIds l m = true ↔ l = m
  | [], [] => by simp [eqIds]
  | [], b :: m => by simp [eqIds]
  | a :: l, [] => by simp [eqIds]
  | a :: l, b :: m => by
    have := keqIds_iff (l := l) (m := m)
    simp only [eqIds, Bool.and_eq_true, List.cons.injEq]
    rw [this]
    constructor
    · rintro ⟨h1, h2⟩; exact ⟨by first | exact tl_eq.1 h1 | simpa using h1, h2⟩
    · rintro ⟨h1, h2⟩; subst h1; exact ⟨by simp, h2⟩
theorem keqIds_no {l m : List ByteArray} (h : l ≠ m) : eqIds l m = false := by
  cases e : eqIds l m with
  | false => rfl
  | true => exact absurd (keqIds_iff.1 e) h
set_option maxHeartbeats 2000000 in
theorem equalT_calls (l m : List ByteArray) (v v' : Value) (w : World) (hT : TxW w l v) (hM : TxW w m v') :
    Calls Tryz.prog 153 #[v, v'] w fun e w' => e = .returned (.bool (eqIds l m)) ∧ Below w.heap.size w w' := by
  obtain ⟨oa, cap, b, o, rfl, hT⟩ := hT
  obtain ⟨oa', cap', b', o', rfl, hM⟩ := hM
  have h1 := hT.len
  have h2 := hT.max
  have h1' := hM.len
  have h2' := hM.max
  unfold maxLen at h2 h2'
  have HT := Lib.hid hT
  have HM := Lib.hid hM
  clear hT hM
  by_cases hl : l.length = m.length
  · rw [← hl] at h1' ⊢
    have HL := Lib.hid hl
    clear hl
    have hne : ((l.length : Int) == (l.length : Int)) = true := by simp
    generalize hn : l.length = n at *
    have HN := Lib.hid hn
    clear hn
    go_enter Tryz.func153, Tryz.ntmps153
    go_wp2_with fail
    go_loopw [13] (fun i wr => KEqRel l m n w i wr) (fun i _ => n - (intOf i).toNat)
    case atStart => exact ⟨0, Nat.zero_le _, rfl, Lib.hid fun j hj => absurd hj (by omega), Lib.hid (Below.refl _ _)⟩
    case round =>
      obtain ⟨k, hk, rfl, HS, HB⟩ := hrel
      by_cases hlt : k < n
      · obtain ⟨x, hx⟩ : ∃ x, l[k]? = some x := ⟨_, List.getElem?_eq_getElem (by rw [HN.out]; exact hlt)⟩
        obtain ⟨y, hy⟩ : ∃ y, m[k]? = some y := ⟨_, List.getElem?_eq_getElem (by rw [← HL.out]; exact hlt)⟩
        obtain ⟨rfl, hb⟩ := HT.out.at0 (by rw [HN.out]; omega)
        obtain ⟨rfl, hb'⟩ := HM.out.at0 (by rw [← HL.out]; omega)
        have c0 := (HT.out.later HB.out (Nat.le_refl _)).cell k x hx
        have c1 := (HM.out.later HB.out (Nat.le_refl _)).cell k y hy
        have r0 := fun dd os => cell_regrown c0 dd os
        have r1 := fun dd os => cell_regrown c1 dd os
        have z0 : b < wr.heap.size := Nat.lt_of_lt_of_le hb HB.out.size
        have z1 : b' < wr.heap.size := Nat.lt_of_lt_of_le hb' HB.out.size
        have HX := Lib.hid hx
        have HY := Lib.hid hy
        have k0 : (0 : Int) ≤ (k : Int) := by omega
        have k1 : (k : Int) < (n : Int) := by omega
        clear c0 c1 hx hy hb hb'
        cases hs : (x.toList == y.toList)
        · have HF := Lib.hid (show eqIds l m = false from keqIds_no (fun e => by
            have h1 := HX.out
            rw [e, HY.out] at h1
            cases h1; simp at hs))
          go_wp2_with fail
          refine wp_region_quiet_below (by kernel_rfl) (by kernel_rfl) ?_
          repeat (first | go_big_quiet_step (fail) | quiet_step (fail))
          refine wpQuiet_nil ?_
          intro w7 hw'
          have hb7 := Lib.hid (regrown_below hw')
          clear hw' r0 r1
          go_wp2_with fail
          go_ret
          exact ⟨ret_bool HF.out.symm, HB.out.trans (hb7.out.mono HB.out.size)⟩
        · have HF := Lib.hid (show ∀ j, j < k + 1 → l[j]? = m[j]? from fun j hj => by
            by_cases e : j = k
            · subst e; rw [HX.out, HY.out, tl_eq.1 hs]
            · exact HS.out j (by omega))
          go_wp2_with fail
          refine wp_region_quiet_below (by kernel_rfl) (by kernel_rfl) ?_
          repeat (first | go_big_quiet_step (fail) | quiet_step (fail))
          refine wpQuiet_nil ?_
          intro w7 hw'
          have hb7 := Lib.hid (regrown_below hw')
          clear hw' r0 r1
          go_wp2_with fail
          go_roundw
          case rel => exact ⟨k + 1, by omega, by go_num, HF, Lib.hid (HB.out.trans (hb7.out.mono HB.out.size))⟩
          case measure => simp [intOf]; omega
      · have HF := Lib.hid (show eqIds l m = true from keqIds_iff.2 (List.ext_getElem? fun j => by
          by_cases hj : j < k
          · exact HS.out j hj
          · rw [List.getElem?_eq_none (by rw [HN.out]; omega), List.getElem?_eq_none (by rw [← HL.out]; omega)]))
        go_wp2_with fail
        go_ret
        exact ⟨ret_bool HF.out.symm, HB.out⟩
  · have HF := Lib.hid (keqIds_no (l := l) (m := m) (fun e => hl (by rw [e])))
    have hne : ((l.length : Int) == (m.length : Int)) = false := by simp; omega
    clear hl
    go_enter Tryz.func153, Tryz.ntmps153
    go_wp2_with fail
    go_ret
    exact ⟨ret_bool HF.out.symm, Below.refl _ _⟩
/-! ### A text that may be no Id -/
def OxRel (l : List ByteArray) (n : Nat) (w0 : World) (i : Value) (wr : World) : Prop := ∃ k : Nat, k ≤ n ∧ i = .int .i64 k ∧ Hid ((l.take k).any (fun s => !nameB s) = false) ∧ Hid (w0 = wr)
set_option maxHeartbeats 1000000 in
theorem odd1_calls (s : ByteArray) (w : World) :
    Calls Tryz.prog 150 #[.string s] w fun e w' => e = .returned (.bool (!nameB s)) ∧ w' = w := by
  have H := Lib.hid (name_calls s w)
  generalize nameB s = r at *
  go_enter Tryz.func150, Tryz.ntmps150
  go_wp2_with (go_at_call 142; refine (H.out).mono ?_; rintro e w' ⟨rfl, rfl⟩)
  go_ret
  exact ⟨rfl, rfl⟩
set_option maxHeartbeats 2000000 in
theorem indexO_calls (l : List ByteArray) (v : Value) (w : World) (hT : TxW w l v) :
    Calls Tryz.prog 197 #[v, .func (Fn.func 150) #[] #[]] w fun e w' => ∃ n : Int, e = .returned (.int .i64 n) ∧ decide (0 ≤ n) = (l.any fun s => !nameB s) ∧ w' = w := by
  obtain ⟨oa, cap, b, o, rfl, hT⟩ := hT
  have h1 := hT.len
  have h2 := hT.max
  unfold maxLen at h2
  have HT := Lib.hid hT
  clear hT
  generalize hn : l.length = n at *
  have HN := Lib.hid hn
  clear hn
  go_enter Tryz.func197, Tryz.ntmps197
  go_wp2_with fail
  go_loopw [8] (fun i wr => OxRel l n w i wr) (fun i _ => n - (intOf i).toNat)
  case atStart => exact ⟨0, Nat.zero_le _, rfl, by simp [Hid], rfl⟩
  case round =>
    obtain ⟨k, hk, rfl, HS, hw⟩ := hrel
    have ew := hw.out
    subst ew
    clear hw
    by_cases hlt : k < n
    · obtain ⟨x, hx⟩ : ∃ x, l[k]? = some x := ⟨_, List.getElem?_eq_getElem (by rw [HN.out]; exact hlt)⟩
      obtain ⟨rfl, hb⟩ := HT.out.at0 (by rw [HN.out]; omega)
      have c0 := HT.out.cell k x hx
      have C := Lib.hid (odd1_calls x w)
      have HX := Lib.hid hx
      clear hx
      cases hs : nameB x
      · rw [hs] at C
        have HF := Lib.hid (show (l.any fun s => !nameB s) = true from List.any_eq_true.2 ⟨x, List.mem_of_getElem? HX.out, by rw [hs]; rfl⟩)
        clear HS
        go_wp2_with (go_at_call 150; refine C.out.mono ?_; rintro e w' ⟨rfl, rfl⟩)
        go_ret
        exact ⟨_, rfl, by rw [HF.out]; simp, rfl⟩
      · rw [hs] at C
        have HF := Lib.hid (show ((l.take (k + 1)).any fun s => !nameB s) = false by rw [takeT HX.out, List.any_append, HS.out]; simp [hs])
        clear HS
        go_wp2_with (go_at_call 150; refine C.out.mono ?_; rintro e w' ⟨rfl, rfl⟩)
        go_roundw
        case rel => exact ⟨k + 1, by omega, by go_num, HF, rfl⟩
        case measure => simp [intOf]; omega
    · have h := HS.out
      rw [List.take_of_length_le (by rw [HN.out]; omega)] at h
      have HF := Lib.hid h
      clear h HS
      go_wp2_with fail
      go_ret
      exact ⟨_, rfl, by rw [HF.out]; simp, rfl⟩
set_option maxHeartbeats 1000000 in
theorem containsO_calls (l : List ByteArray) (v : Value) (w : World) (hT : TxW w l v) :
    Calls Tryz.prog 149 #[v, .func (Fn.func 150) #[] #[]] w fun e w' => e = .returned (.bool (l.any fun s => !nameB s)) ∧ w' = w := by
  have C := Lib.hid (indexO_calls l v w hT)
  obtain ⟨oa, cap, rfl⟩ := hT.val
  clear hT
  go_enter Tryz.func149, Tryz.ntmps149
  go_wp2_with (go_at_call 197; refine C.out.mono ?_; rintro e w' ⟨n, rfl, hn, rfl⟩)
  go_ret
  first | exact ⟨ret_bool hn, rfl⟩ | exact ⟨rfl, rfl⟩
end Go.Proofs.YthbjgfennclidaaGreat
/- The keys of the counts, sorted: the library's contracts of maps.Keys and slices.Sorted, laid at this program. No walk. -/
namespace Go.Proofs.YthbjgfennclidaaGreat
set_option linter.unusedVariables false
set_option linter.unusedSimpArgs false
set_option maxRecDepth 100000
open Go.RowKit Go.Maps Go.Sort Go.Shelf
def keysA_ren : Go.Shelf.Ren := ⟨fun | 7 => 156 | 10 => 200 | n => n,
  fun | 23 => 201 | 26 => 9 | 3 => 28 | 28 => 206 | 0 => 0 | 27 => 205 | 33 => 108 | 4 => 4 | n => n,
  fun | n => n⟩
theorem keysA : Go.Proofs.SlLaysZ.n7 Tryz.prog keysA_ren := {
  mixed := by kernel_rfl,
  f7 := ⟨Tryz.f156.name, by decide, Tryz.func156.trans (congrArg some (by kernel_rfl))⟩,
  f10 := ⟨Tryz.f200.name, by decide, Tryz.func200.trans (congrArg some (by kernel_rfl))⟩,
  t0 := Tryz.underlying0,
  a0 := Tryz.isAgg0,
  z0 := Tryz.sizeOf0,
  v0 := Tryz.zeroValue0,
  t4 := Tryz.underlying4,
  a4 := Tryz.isAgg4,
  z4 := Tryz.sizeOf4,
  v4 := Tryz.zeroValue4,
  t23 := Tryz.underlying201,
  a23 := Tryz.isAgg201,
  z23 := Tryz.sizeOf201,
  v23 := Tryz.zeroValue201,
  t26 := Tryz.underlying9,
  a26 := Tryz.isAgg9,
  z26 := Tryz.sizeOf9,
  v26 := Tryz.zeroValue9,
  t27 := Tryz.underlying205,
  a27 := Tryz.isAgg205,
  z27 := Tryz.sizeOf205,
  v27 := Tryz.zeroValue205,
  t28 := Tryz.underlying206,
  a28 := Tryz.isAgg206,
  z28 := Tryz.sizeOf206,
  v28 := Tryz.zeroValue206,
  t33 := Tryz.underlying108,
  a33 := Tryz.isAgg108,
  z33 := Tryz.sizeOf108,
  v33 := Tryz.zeroValue108 }
def sortedA_ren : Go.Shelf.Ren := ⟨fun | 6 => 155 | 8 => 198 | 9 => 199 | 11 => 219 | 13 => 221 | 12 => 220 | 23 => 240 | 24 => 241 | 14 => 231 | 15 => 232 | 16 => 233 | 17 => 234 | 18 => 235 | 19 => 236 | 20 => 237 | 21 => 238 | 22 => 239 | 25 => 247 | 26 => 248 | 27 => 249 | 28 => 250 | 29 => 251 | 30 => 162 | 31 => 252 | n => n,
  fun | 26 => 9 | 28 => 206 | 24 => 123 | 0 => 0 | 3 => 3 | 37 => 220 | 48 => 254 | 50 => 256 | 4 => 4 | 40 => 248 | 39 => 247 | 45 => 161 | 5 => 5 | 9 => 9 | 51 => 260 | 55 => 264 | 57 => 266 | 58 => 215 | 33 => 108 | n => n,
  fun | n => n⟩
theorem sortedA : Go.Proofs.SlLaysZ.n6 Tryz.prog sortedA_ren := {
  mixed := by kernel_rfl,
  f6 := ⟨Tryz.f155.name, by decide, Tryz.func155.trans (congrArg some (by kernel_rfl))⟩,
  f8 := ⟨Tryz.f198.name, by decide, Tryz.func198.trans (congrArg some (by kernel_rfl))⟩,
  f11 := ⟨Tryz.f219.name, by decide, Tryz.func219.trans (congrArg some (by kernel_rfl))⟩,
  t0 := Tryz.underlying0,
  a0 := Tryz.isAgg0,
  z0 := Tryz.sizeOf0,
  v0 := Tryz.zeroValue0,
  t24 := Tryz.underlying123,
  a24 := Tryz.isAgg123,
  z24 := Tryz.sizeOf123,
  v24 := Tryz.zeroValue123,
  t26 := Tryz.underlying9,
  a26 := Tryz.isAgg9,
  z26 := Tryz.sizeOf9,
  v26 := Tryz.zeroValue9,
  t28 := Tryz.underlying206,
  a28 := Tryz.isAgg206,
  z28 := Tryz.sizeOf206,
  v28 := Tryz.zeroValue206,
  i26 := by kernel_rfl }
def sortA_ren : Go.Shelf.Ren := ⟨fun | 6 => 199 | 8 => 221 | 9 => 220 | 19 => 240 | 20 => 241 | 21 => 231 | 22 => 232 | 23 => 233 | 24 => 234 | 25 => 235 | 26 => 236 | 27 => 237 | 28 => 238 | 29 => 239 | 36 => 247 | 31 => 248 | 32 => 249 | 37 => 250 | 38 => 251 | 39 => 162 | 41 => 252 | n => n,
  fun | 27 => 123 | 29 => 9 | 3 => 3 | 32 => 220 | 26 => 123 | 0 => 0 | 44 => 254 | 46 => 256 | 4 => 4 | 36 => 248 | 35 => 247 | 41 => 161 | 5 => 5 | 9 => 9 | 53 => 260 | 57 => 264 | 63 => 266 | 64 => 215 | n => n,
  fun | n => n⟩
theorem sortA : Go.Proofs.SlLaysM.n6 Tryz.prog sortA_ren := {
  mixed := by kernel_rfl,
  f6 := ⟨Tryz.f199.name, by decide, Tryz.func199.trans (congrArg some (by kernel_rfl))⟩,
  f8 := Tryz.func221.trans (congrArg some (by kernel_rfl)),
  f9 := ⟨Tryz.f220.name, by decide, Tryz.func220.trans (congrArg some (by kernel_rfl))⟩,
  f19 := Tryz.func240.trans (congrArg some (by kernel_rfl)),
  f20 := Tryz.func241.trans (congrArg some (by kernel_rfl)),
  f21 := ⟨Tryz.f231.name, by decide, Tryz.func231.trans (congrArg some (by kernel_rfl))⟩,
  f22 := ⟨Tryz.f232.name, by decide, Tryz.func232.trans (congrArg some (by kernel_rfl))⟩,
  f23 := ⟨Tryz.f233.name, by decide, Tryz.func233.trans (congrArg some (by kernel_rfl))⟩,
  f24 := ⟨Tryz.f234.name, by decide, Tryz.func234.trans (congrArg some (by kernel_rfl))⟩,
  f25 := ⟨Tryz.f235.name, by decide, Tryz.func235.trans (congrArg some (by kernel_rfl))⟩,
  f26 := ⟨Tryz.f236.name, by decide, Tryz.func236.trans (congrArg some (by kernel_rfl))⟩,
  f27 := ⟨Tryz.f237.name, by decide, Tryz.func237.trans (congrArg some (by kernel_rfl))⟩,
  f28 := ⟨Tryz.f238.name, by decide, Tryz.func238.trans (congrArg some (by kernel_rfl))⟩,
  f29 := ⟨Tryz.f239.name, by decide, Tryz.func239.trans (congrArg some (by kernel_rfl))⟩,
  f31 := Tryz.func248.trans (congrArg some (by kernel_rfl)),
  f32 := Tryz.func249.trans (congrArg some (by kernel_rfl)),
  f36 := ⟨Tryz.f247.name, by decide, Tryz.func247.trans (congrArg some (by kernel_rfl))⟩,
  f37 := ⟨Tryz.f250.name, by decide, Tryz.func250.trans (congrArg some (by kernel_rfl))⟩,
  f38 := ⟨Tryz.f251.name, by decide, Tryz.func251.trans (congrArg some (by kernel_rfl))⟩,
  f39 := ⟨Tryz.f162.name, by decide, Tryz.func162.trans (congrArg some (by kernel_rfl))⟩,
  f41 := ⟨Tryz.f252.name, by decide, Tryz.func252.trans (congrArg some (by kernel_rfl))⟩,
  t0 := Tryz.underlying0,
  a0 := Tryz.isAgg0,
  z0 := Tryz.sizeOf0,
  v0 := Tryz.zeroValue0,
  t3 := Tryz.underlying3,
  a3 := Tryz.isAgg3,
  z3 := Tryz.sizeOf3,
  v3 := Tryz.zeroValue3,
  t4 := Tryz.underlying4,
  a4 := Tryz.isAgg4,
  z4 := Tryz.sizeOf4,
  v4 := Tryz.zeroValue4,
  t5 := Tryz.underlying5,
  a5 := Tryz.isAgg5,
  z5 := Tryz.sizeOf5,
  v5 := Tryz.zeroValue5,
  t9 := Tryz.underlying9,
  a9 := Tryz.isAgg9,
  z9 := Tryz.sizeOf9,
  v9 := Tryz.zeroValue9,
  t26 := Tryz.underlying123,
  a26 := Tryz.isAgg123,
  z26 := Tryz.sizeOf123,
  v26 := Tryz.zeroValue123,
  t27 := Tryz.underlying123,
  a27 := Tryz.isAgg123,
  z27 := Tryz.sizeOf123,
  v27 := Tryz.zeroValue123,
  t29 := Tryz.underlying9,
  a29 := Tryz.isAgg9,
  z29 := Tryz.sizeOf9,
  v29 := Tryz.zeroValue9,
  t32 := Tryz.underlying220,
  a32 := Tryz.isAgg220,
  z32 := Tryz.sizeOf220,
  v32 := Tryz.zeroValue220,
  t35 := Tryz.underlying247,
  a35 := Tryz.isAgg247,
  z35 := Tryz.sizeOf247,
  v35 := Tryz.zeroValue247,
  t36 := Tryz.underlying248,
  a36 := Tryz.isAgg248,
  z36 := Tryz.sizeOf248,
  v36 := Tryz.zeroValue248,
  t41 := Tryz.underlying161,
  a41 := Tryz.isAgg161,
  z41 := Tryz.sizeOf161,
  v41 := Tryz.zeroValue161,
  t44 := Tryz.underlying254,
  a44 := Tryz.isAgg254,
  z44 := Tryz.sizeOf254,
  v44 := Tryz.zeroValue254,
  t46 := Tryz.underlying256,
  a46 := Tryz.isAgg256,
  z46 := Tryz.sizeOf256,
  v46 := Tryz.zeroValue256,
  t53 := Tryz.underlying260,
  a53 := Tryz.isAgg260,
  z53 := Tryz.sizeOf260,
  v53 := Tryz.zeroValue260,
  t57 := Tryz.underlying264,
  a57 := Tryz.isAgg264,
  z57 := Tryz.sizeOf264,
  v57 := Tryz.zeroValue264,
  t63 := Tryz.underlying266,
  a63 := Tryz.isAgg266,
  z63 := Tryz.sizeOf266,
  v63 := Tryz.zeroValue266,
  t64 := Tryz.underlying215,
  a64 := Tryz.isAgg215,
  z64 := Tryz.sizeOf215,
  v64 := Tryz.zeroValue215 }
theorem sortsA (m : Nat) : AnyZ.SortsIn Tryz.prog sortedA_ren Fence.wide m :=
  ⟨fun blk off cap ss W hH hblk hsz => callsIn_wide.2 (AnyM.slices_Sort_string sortA blk off cap ss W hH hblk hsz),
   fun p cap W => callsIn_wide.2 (AnyM.slices_Sort_string_none sortA p cap W)⟩
theorem keys_calls (mb : Option Nat) (W : World) : Calls Tryz.prog 156 #[.map mb] W fun e w' => e = .returned (.func (.func 200) #[] #[.pointer (some ⟨W.heap.size, 0, none⟩)]) ∧ w' = W.alloc (.cells #[.map mb] 201) :=
  callsIn_wide.1 (AnyZ.keys_in keysA Fence.wide 5 trivial rfl mb W)
set_option maxHeartbeats 1000000 in
theorem sorted_raw {H : Type} (b nn : Nat) (D0 : DataW H) (R : Value → Option (DataW H × List MemPlace)) (w : World) (hown : w.ownsMap Tryz.prog 9 R b nn D0) (hmax : Maps.size D0 ≤ maxLen) (hbytes : Maps.size D0 * 16 ≤ 140737488355328) :
    Calls Tryz.prog 155 #[.func (.func 200) #[] #[.pointer (some ⟨w.heap.size, 0, none⟩)]] (w.alloc (.cells #[.map (some b)] 201)) fun e w' => ∃ (v : Value) (ss : List (List UInt8)), e = .returned v ∧ ss.Perm (strKeys D0) ∧
      w'.ownsRow (w.alloc (.cells #[.map (some b)] 201)).heap.size 9 1 v ss.length ((ss.mergeSort (fun x y => decide (x ≤ y))).map encStr) ∧ (v = .slice none 0 0 ↔ ss = []) ∧ Below (w.alloc (.cells #[.map (some b)] 201)).heap.size (w.alloc (.cells #[.map (some b)] 201)) w' := by
  have hbl := hown.lt
  have hseq : SeqGives Fence.wide 2 Tryz.prog 200 #[.pointer (some ⟨w.heap.size, 0, none⟩)] encStr (fun ss => ss.Perm (strKeys D0)) (Maps.size D0) (w.alloc (.cells #[.map (some b)] 201)) :=
    AnyZ.keys_gives (ρ := keysA_ren) { keysA with } Fence.wide _ trivial rfl (by omega) w.heap.size b nn D0 _ (by simp) (by simp) (by
      obtain ⟨es, clock, hb, Ft, hs, hD⟩ := hown
      exact ⟨es, clock, (Below.heap_alloc _ _ b hbl).trans hb, Ft, hs, hD⟩)
  exact callsIn_wide.1 (AnyZ.sorted_in sortedA Fence.wide 5 trivial trivial trivial trivial rfl (by omega) (sortsA _) (enters_of Tryz.func199 (by kernel_rfl) rfl) 200 #[.pointer (some ⟨w.heap.size, 0, none⟩)] trivial (enters_of Tryz.func200 (by kernel_rfl) rfl) _ _ hmax hbytes _ hseq)
theorem tl_data (s : ByteArray) : s.toList = s.data.toList := ByteArray.toList_eq s
theorem rise_sorted {ns : List ByteArray} (h : Rise ns) : (ns.map fun s => s.data.toList).Pairwise (fun a b => (decide (a ≤ b)) = true) := by
  refine List.pairwise_map.2 (List.Pairwise.imp (fun {a b} hab => ?_) h)
  unfold lsB at hab
  rw [Go.Proofs.bytesLess_eq, tl_data, tl_data] at hab
  rw [decide_eq_true_eq] at *
  exact List.le_of_lt hab
theorem rise_nodup {ns : List ByteArray} (h : Rise ns) : (ns.map fun s => s.data.toList).Nodup := by
  refine List.pairwise_map.2 (List.Pairwise.imp (fun {a b} hab e => ?_) h)
  exact ls_ne hab (tl_inj (by rw [tl_data, tl_data]; exact e))
theorem perm_names {H : Type} {D : DataW H} {ns : List ByteArray} (hr : Rise ns) (ht : Tidy D) (hk : ∃ es, D = .map es ∧ ∀ p ∈ es, KeysOf Tryz.prog 9 p.1) (hm : ∀ s : ByteArray, Maps.has D (.string s.data.toList) = true ↔ s ∈ ns) : (ns.map fun s => s.data.toList).Perm (strKeys D) := by
  obtain ⟨es, rfl, hp⟩ := ht
  obtain ⟨es', e, hk⟩ := hk
  cases e
  refine perm_strKeys hp (fun p hp' => ?_) (rise_nodup hr) fun x => ?_
  · obtain ⟨v, hv⟩ := hk p hp'
    obtain ⟨x, _, hx, _⟩ := Maps.keyOf_str Tryz.underlying9 hv
    exact ⟨x, hx⟩
  · have h := hm ⟨x.toArray⟩
    simp only [] at h
    rw [h, List.mem_map]
    constructor
    · rintro ⟨s, hs, rfl⟩
      exact hs
    · intro hs
      exact ⟨_, hs, rfl⟩
theorem sorted_calls {H : Type} (b nn : Nat) (D0 : DataW H) (R : Value → Option (DataW H × List MemPlace)) (w : World) (hown : w.ownsMap Tryz.prog 9 R b nn D0) (ns : List ByteArray) (hr : Rise ns) (hm : ∀ s : ByteArray, Maps.has D0 (.string s.data.toList) = true ↔ s ∈ ns) (hlen : ns.length ≤ 10000) :
    Calls Tryz.prog 155 #[.func (.func 200) #[] #[.pointer (some ⟨w.heap.size, 0, none⟩)]] (w.alloc (.cells #[.map (some b)] 201)) fun e w' => ∃ (v : Value), e = .returned v ∧
      OwnT w' (w.heap.size + 1) ns v ∧ Below (w.heap.size + 1) (w.alloc (.cells #[.map (some b)] 201)) w' := by
  have hp := perm_names hr (hown.tidy (string_keyed Tryz.underlying9)) hown.keysOf hm
  have hsz : Maps.size D0 = ns.length := by
    obtain ⟨es, rfl, _⟩ := hown.keysOf
    have h1 := hp.length_eq
    simp only [strKeys, List.length_map] at h1
    rw [Maps.size_eq]; exact h1.symm
  refine (sorted_raw b nn D0 R w hown (by unfold maxLen; omega) (by omega)).mono ?_
  rintro e w' ⟨v, ss, rfl, hs, hrow, _, hb⟩
  have e1 : (w.alloc (.cells #[.map (some b)] 201)).heap.size = w.heap.size + 1 := by simp
  rw [e1] at hrow hb
  refine ⟨v, rfl, ?_, hb⟩
  have e2 : ss.length = ns.length := by rw [hs.length_eq, ← hp.length_eq, List.length_map]
  have e3 : ss.mergeSort (fun x y => decide (x ≤ y)) = ns.map fun s => s.data.toList := by
    rw [show (ss.mergeSort fun x y => decide (x ≤ y)) = _ from mergeSort_of_perm (hs.trans hp.symm)]
    exact List.mergeSort_of_pairwise (rise_sorted hr)
  have e4 : (ns.map fun s => s.data.toList).map encStr = txC ns := by
    rw [List.map_map]
    unfold txC
    refine List.map_congr_left fun s _ => ?_
    simp [encStr]
  unfold OwnT
  rw [e2, e3, e4] at hrow
  exact hrow
theorem keysC (mb : Option Nat) (W : World) (B : Nat) (hB : W.heap.size = B) : Calls Tryz.prog 156 #[.map mb] W fun e w' => e = .returned (.func (.func 200) #[] #[.pointer (some ⟨B, 0, none⟩)]) ∧ w' = W.alloc (.cells #[.map mb] 201) := by
  subst hB
  exact keys_calls mb W
theorem sortedC {w : World} {b nn : Nat} {ids : List ByteArray} {raw : ByteArray → Nat → Int} (h : Cnt w b nn ids raw) (ns : List ByteArray) (hr : Rise ns) (hm : ∀ s : ByteArray, s ∈ ids ↔ s ∈ ns) (hlen : ns.length ≤ 10000) (B : Nat) (hB : w.heap.size = B) :
    Calls Tryz.prog 155 #[.func (.func 200) #[] #[.pointer (some ⟨B, 0, none⟩)]] (w.alloc (.cells #[.map (some b)] 201)) fun e w' => ∃ (v : Value), e = .returned v ∧
      OwnT w' (B + 1) ns v ∧ Below (B + 1) (w.alloc (.cells #[.map (some b)] 201)) w' := by
  subst hB
  obtain ⟨D, ho, _, hh⟩ := h
  exact sorted_calls b nn D heldR w ho ns hr (fun s => (hh s).trans (hm s)) hlen
end Go.Proofs.YthbjgfennclidaaGreat
/- Of each Id the greatest counts: the code's own, walked. -/
namespace Go.Proofs.YthbjgfennclidaaGreat
set_option linter.unusedVariables false
set_option linter.unusedSimpArgs false
set_option maxRecDepth 100000
open Go.RowKit Go.Maps
def rawJ (l : List Fr) (f : Fr) (j : Nat) (s : ByteArray) : Nat → Int := if amongB (f.ids.take j) s = true then maxV (rawF l s) f.v else rawF l s
theorem rawJ_zero (l : List Fr) (f : Fr) : rawJ l f 0 = rawF l := by
  funext s; simp [rawJ, amongB]
theorem rawJ_all (l : List Fr) {f : Fr} {k : Nat} (hf : l[k]? = some f) : rawJ (l.take k) f f.ids.length = rawF (l.take (k + 1)) := by
  funext s
  rw [takeT hf]
  simp [rawJ, rawF, List.foldl_append, rawStep]
theorem max_again (A B : Nat → Int) : maxV (maxV A B) B = maxV A B := funext fun j => max_more A B j
theorem rawJ_step (l : List Fr) (f : Fr) {j : Nat} {s : ByteArray} (hs : f.ids[j]? = some s) : (fun x => if x = s then maxV (rawJ l f j s) f.v else rawJ l f j x) = rawJ l f (j + 1) := by
  funext x
  unfold rawJ
  rw [takeT hs]
  by_cases e : x = s
  · subst e
    have h1 : amongB (f.ids.take j ++ [x]) x = true := among_iff.2 (by simp)
    rw [if_pos rfl, h1, if_pos rfl]
    split
    · exact max_again _ _
    · rfl
  · rw [if_neg e]
    have h1 : amongB (f.ids.take j ++ [s]) x = amongB (f.ids.take j) x := by
      cases h : amongB (f.ids.take j) x with
      | true => exact among_iff.2 (by simp [among_iff.1 h])
      | false =>
        cases h' : amongB (f.ids.take j ++ [s]) x with
        | false => rfl
        | true =>
          have := among_iff.1 h'
          simp [e] at this
          rw [among_iff.2 this] at h; cases h
    rw [h1]
theorem gflat_take {l : List Fr} {k : Nat} {f : Fr} (hf : l[k]? = some f) : flatI (l.take (k + 1)) = flatI (l.take k) ++ f.ids := by
  rw [takeT hf]; simp [flatI]
theorem gflat_len {l : List Fr} {k : Nat} : (flatI (l.take k)).length ≤ (flatI l).length := by
  unfold flatI
  conv => rhs; rw [← List.take_append_drop k l]
  rw [List.flatMap_append, List.length_append]; omega
def GrRel (l : List Fr) (n : Nat) (w0 : World) (i : Value) (wr : World) : Prop :=
  ∃ k : Nat, k ≤ n ∧ i = .int .i64 k ∧ Hid (Cnt wr w0.heap.size (flatI (l.take k)).length (flatI (l.take k)) (rawF (l.take k))) ∧ Hid (Below w0.heap.size w0 wr)
def GjRel (lk : List Fr) (f : Fr) (n : Nat) (w0 : World) (X : Array Value) (bf : Nat) (i : Value) (wr : World) : Prop :=
  ∃ j : Nat, j ≤ n ∧ i = .int .i64 j ∧ Hid (Cnt wr w0.heap.size ((flatI lk).length + j) (flatI lk ++ f.ids.take j) (rawJ lk f j)) ∧ Hid (Own wr bf X 125) ∧ Hid (Below w0.heap.size w0 wr)
set_option maxRecDepth 100000 in
set_option maxHeartbeats 4000000 in
theorem greatest_calls (l : List Fr) (v : Value) (w : World) (hR : FrW w l v) (hlen : (flatI l).length ≤ 10000) :
    Calls Tryz.prog 154 #[v] w fun e w' => e = .returned (.map (some w.heap.size)) ∧ Cnt w' w.heap.size (flatI l).length (flatI l) (rawF l) ∧ Below w.heap.size w w' := by
  obtain ⟨U, oa, cap, bl, o, rfl, hF⟩ := hR
  have hc1 := hF.len
  have hc2 := hF.max
  unfold maxLen at hc2
  have HF := Lib.hid hF
  clear hF
  have hmm := @run_makeMap Tryz.prog
  have I0 : GrRel l l.length w (.int .i64 0) (w.alloc (.map #[] 0)) := ⟨0, Nat.zero_le _, rfl, by rw [List.take_zero]; exact Lib.hid (Cnt.made w), Lib.hid ((Below.refl _ _).alloc (Nat.le_refl _) _)⟩
  have HI := Lib.hid I0
  clear I0
  generalize hn : l.length = n at *
  have HN := Lib.hid hn
  clear hn
  go_enter Tryz.func154, Tryz.ntmps154
  go_wp2_with fail
  go_loopw [11] (fun i wr => GrRel l n w i wr) (fun i _ => n - (intOf i).toNat)
  case atStart => exact HI.out
  case round =>
    clear HI
    obtain ⟨k, hk, rfl, HC, HB⟩ := hrel
    by_cases hlt : k < n
    · obtain ⟨f, hf⟩ : ∃ f, l[k]? = some f := ⟨_, List.getElem?_eq_getElem (by rw [HN.out]; exact hlt)⟩
      have hat := HF.out.at0 (by rw [HN.out]; omega)
      obtain ⟨rfl, hbl⟩ := hat
      have FL := HF.out.later HB.out (Nat.le_refl _)
      obtain ⟨c0, c1, c2, c3, c4, c5, c6, c7, c8⟩ := fc_cells (w := wr) (fun j u hu => FL.cell k f hf j u hu)
      have zl : bl < wr.heap.size := Nat.lt_of_lt_of_le hbl HB.out.size
      obtain ⟨ob, cb, b', o', hU, hT⟩ := HF.out.ids k f hf
      have ht1 := hT.len
      have ht2 := hT.max
      unfold maxLen at ht2
      have HT := Lib.hid hT
      have HL := Lib.hid (show (flatI (l.take k)).length + f.ids.length ≤ 10000 by
        have h1 := gflat_len (l := l) (k := k + 1)
        rw [gflat_take hf, List.length_append] at h1
        omega)
      have HJ0 := Lib.hid (rawJ_zero (l.take k) f)
      have HJ1 := Lib.hid (rawJ_all l hf)
      have HJ2 := Lib.hid (gflat_take hf)
      rw [hU] at c0
      clear FL hT hf
      generalize hk1 : l.take (k + 1) = lk1 at *
      have HK1 := Lib.hid hk1
      have hkn := Lib.hid hlt
      clear hk1
      generalize l.take k = lk at *
      have CA := HC.out.later ((Below.refl _ wr).alloc (Nat.le_refl _) (.cells #[.slice ob f.ids.length cb, .int .i64 (f.v 0), .int .i64 (f.v 1), .int .i64 (f.v 2), .int .i64 (f.v 3), .int .i64 (f.v 4), .int .i64 (f.v 5), .int .i64 (f.v 6), .int .i64 (f.v 7)] 125))
      have J0 : GjRel lk f f.ids.length w #[.slice ob f.ids.length cb, .int .i64 (f.v 0), .int .i64 (f.v 1), .int .i64 (f.v 2), .int .i64 (f.v 3), .int .i64 (f.v 4), .int .i64 (f.v 5), .int .i64 (f.v 6), .int .i64 (f.v 7)] wr.heap.size (.int .i64 0) (wr.alloc (.cells #[.slice ob f.ids.length cb, .int .i64 (f.v 0), .int .i64 (f.v 1), .int .i64 (f.v 2), .int .i64 (f.v 3), .int .i64 (f.v 4), .int .i64 (f.v 5), .int .i64 (f.v 6), .int .i64 (f.v 7)] 125)) :=
        ⟨0, Nat.zero_le _, rfl, by rw [HJ0.out, List.take_zero, List.append_nil]; exact Lib.hid CA, Lib.hid (Own.new _ _ _), Lib.hid (HB.out.alloc HB.out.size _)⟩
      have HJ := Lib.hid J0
      have HC0 := HC.out.lt
      clear J0 CA HC HJ0
      have hbf : w.heap.size < wr.heap.size := HC0
      generalize hm : f.ids.length = m at *
      have HM := Lib.hid hm
      clear hm
      go_upto_block 2 with fail
      clear c0 c1 c2 c3 c4 c5 c6 c7 c8 hlt zl hbl
      generalize wr.heap.size = bf at *
      go_wp2_with fail
      go_loopw [18] (fun i wr => GjRel lk f m w #[.slice ob m cb, .int .i64 (f.v 0), .int .i64 (f.v 1), .int .i64 (f.v 2), .int .i64 (f.v 3), .int .i64 (f.v 4), .int .i64 (f.v 5), .int .i64 (f.v 6), .int .i64 (f.v 7)] bf i wr) (fun i _ => m - (intOf i).toNat)
      case atStart => exact HJ.out
      case round =>
        clear HJ HB
        obtain ⟨j, hj, rfl, HC, HO, HB⟩ := hrel
        by_cases hlt : j < m
        · obtain ⟨s, hs⟩ : ∃ s, f.ids[j]? = some s := ⟨_, List.getElem?_eq_getElem (by rw [HM.out]; exact hlt)⟩
          obtain ⟨rfl, hbt⟩ := HT.out.at0 (by rw [HM.out]; omega)
          have cs := (HT.out.later HB.out (Nat.le_refl _)).cell j s hs
          have zt : b' < wr.heap.size := Nat.lt_of_lt_of_le hbt HB.out.size
          have hsz := HT.out.ok s (List.mem_of_getElem? hs)
          have hlk := HC.out.look hsz
          have lo := HO.out.cell
          have zo := HO.out.lt
          have HS := Lib.hid (rawJ_step lk f hs)
          have HT2 := Lib.hid (takeT hs)
          have hnn : (flatI lk).length + j < maxLen := by have := HL.out; unfold maxLen; omega
          have CM := fun w' => Lib.hid (vecMax_calls (rawJ lk f j s) f.v w')
          have PUT := fun w' (h3 : Below wr.heap.size wr w') => (HC.out.later h3).put hsz hnn (maxV (rawJ lk f j s) f.v)
          have PP := Lib.hid PUT
          have HZ := Lib.hid hsz
          clear hs hsz hbt PUT
          go_wp2_with (go_at_call 189; refine (CM _).out.mono ?_; rintro e w3 ⟨rfl, hb3⟩; obtain ⟨w4, hput, hc4, hg4⟩ := PP.out w3 hb3)
          have B4 := Lib.hid ((HB.out.trans (hb3.mono HB.out.size)).grown hg4 (by have := hb3.size; have := HB.out.size; omega) (fun q hq => by cases hq; exact Nat.le_refl _))
          have O4 := Lib.hid ((HO.out.later hb3).grown hg4 (by simp; omega))
          go_roundw
          case rel => exact ⟨j + 1, by omega, by go_num, by rw [HT2.out, ← HS.out, ← List.append_assoc]; exact Lib.hid hc4, O4, B4⟩
          case measure => simp [intOf]; omega
        · have e : j = m := by omega
          subst e
          have HC2 := Lib.hid (show Cnt wr w.heap.size (flatI lk1).length (flatI lk1) (rawF lk1) by
            have h := HC.out
            rw [HJ1.out, ← HM.out, List.take_length, ← List.length_append, ← HJ2.out] at h
            exact h)
          have hkn' := hkn.out
          go_wp2_with fail
          go_roundw
          case rel => exact ⟨k + 1, by omega, by go_num, by rw [HK1.out]; exact HC2, HB⟩
          case measure => simp [intOf]; omega
    · have e : k = n := by omega
      have h := HC.out
      rw [List.take_of_length_le (by rw [HN.out]; omega)] at h
      have H7 := Lib.hid h
      clear h e
      go_wp2_with fail
      go_ret
      exact ⟨rfl, H7.out, HB.out⟩
end Go.Proofs.YthbjgfennclidaaGreat
/- The code's search for an Id: cmp.Compare of texts, span's closure, slices.BinarySearchFunc, span. Walked. -/
namespace Go.Proofs.YthbjgfennclidaaGreat
set_option linter.unusedVariables false
set_option linter.unusedSimpArgs false
set_option maxRecDepth 100000
open Go.RowKit
def cmpS (a b : ByteArray) : Int := if lsB a b = true then -1 else if lsB b a = true then 1 else 0
theorem cmpS_neg (a b : ByteArray) : decide (cmpS a b < 0) = lsB a b := by
  unfold cmpS
  cases lsB a b <;> cases lsB b a <;> simp
theorem cmpS_zero (a b : ByteArray) : decide (cmpS a b = 0) = (a.toList == b.toList) := by
  unfold cmpS
  rcases ls_tri a b with h | h | h
  · rw [h, tl_ne.2 (ls_ne h)]; simp
  · rw [h, ls_irr, tl_eq.2 rfl]; simp
  · rw [ls_asym h, h, tl_ne.2 fun e => ls_ne h e.symm]; simp
set_option maxHeartbeats 400000 in
theorem isNaNS_calls (a : ByteArray) (w : World) :
    Calls Tryz.prog 162 #[.string a] w fun e w' => e = .returned (.bool false) ∧ w = w' := by
  go_enter Tryz.func162, Tryz.ntmps162
  go_wp2
  go_ret
  exact ⟨ret_bool (by simp), rfl⟩
set_option maxHeartbeats 400000 in
theorem cmpS_calls (a b : ByteArray) (w : World) :
    Calls Tryz.prog 109 #[.string a, .string b] w fun e w' => e = .returned (.int .i64 (cmpS a b)) ∧ w = w' := by
  have H := fun a w => Lib.hid (isNaNS_calls a w)
  cases h1 : Op.bytesLess a.toList b.toList
  · cases h2 : (a.toList == b.toList)
    · have e : cmpS a b = 1 := by
        unfold cmpS lsB
        have := ls_tri a b
        unfold lsB at this
        rcases this with h | h | h
        · rw [h1] at h; cases h
        · rw [tl_eq.2 h] at h2; cases h2
        · rw [h1, h]; rfl
      rw [e]
      go_enter Tryz.func109, Tryz.ntmps109
      go_wp2_with (go_at_call 162; refine ((H _ _).out).mono ?_; rintro e w' ⟨rfl, rfl⟩)
      all_goals
        go_ret
        first | exact ⟨ret_int (by simp_all), rfl⟩ | simp_all
    · have e : cmpS a b = 0 := by
        unfold cmpS
        rw [tl_eq.1 h2, ls_irr]; rfl
      rw [e]
      go_enter Tryz.func109, Tryz.ntmps109
      go_wp2_with (go_at_call 162; refine ((H _ _).out).mono ?_; rintro e w' ⟨rfl, rfl⟩)
      all_goals
        go_ret
        first | exact ⟨ret_int (by simp_all), rfl⟩ | simp_all
  · have e : cmpS a b = -1 := by
      unfold cmpS lsB
      rw [h1]; rfl
    rw [e]
    go_enter Tryz.func109, Tryz.ntmps109
    go_wp2_with (go_at_call 162; refine ((H _ _).out).mono ?_; rintro e w' ⟨rfl, rfl⟩)
    all_goals
      go_ret
      first | exact ⟨ret_int (by simp_all), rfl⟩ | simp_all
set_option maxHeartbeats 400000 in
theorem spanF_calls (x : Itm) (id : ByteArray) (w : World) :
    Calls Tryz.prog 210 #[iV x, .string id] w fun e w' => e = .returned (.int .i64 (cmpS x.id id)) ∧ Below w.heap.size w w' := by
  have H := fun a b w => Lib.hid (cmpS_calls a b w)
  have BEL := Lib.hid ((Below.refl w.heap.size w).alloc (Nat.le_refl _) (.cells (iA x) 68))
  go_enter Tryz.func210, Tryz.ntmps210
  go_wp2_with (go_at_call 109; refine ((H _ _ _).out).mono ?_; rintro e w' ⟨rfl, rfl⟩)
  go_ret
  exact ⟨rfl, BEL.out⟩
def BsRel (k len : Nat) (w : World) (iv jv : Value) (wr : World) : Prop :=
  ∃ i j : Nat, iv = .int .i64 i ∧ jv = .int .i64 j ∧ i ≤ k ∧ k ≤ j ∧ j ≤ len ∧ Hid (Below w.heap.size w wr)
set_option maxRecDepth 100000 in
set_option maxHeartbeats 4000000 in
theorem bsearch_calls (l : List Itm) (id : ByteArray) (v : Value) (w : World) (hR : Row 8 ic w l v) (hr : RiseI l) (hl : l.length ≤ 10000) :
    Calls Tryz.prog 209 #[v, .string id, .func (.func 210) #[] #[]] w fun e w' => e = .returned (.tuple #[.int .i64 (posI l id), .bool (hitI l id)]) ∧ Below w.heap.size w w' := by
  obtain ⟨oa, cap, b, o, rfl, hR⟩ := hR
  have HR := Lib.hid hR
  have HC := fun x w => Lib.hid (spanF_calls x id w)
  have hcap := hR.len
  have hmax := hR.max
  unfold maxLen at hmax
  have PI := fun (j : Nat) (i : Itm) (h : l[j]? = some i) => Lib.hid (pos_iff (id := id) hr h)
  have hk := pos_le l id
  have HH := Lib.hid (show ∀ i, l[posI l id]? = some i → hitI l id = (i.id.toList == id.toList) from fun i hi => by unfold hitI; rw [hi])
  have HN0 := Lib.hid (show l[posI l id]? = none → hitI l id = false from fun hi => by unfold hitI; rw [hi])
  clear hR hr
  generalize hn : l.length = len at *
  have HN := Lib.hid hn
  clear hn
  generalize posI l id = k at *
  generalize hitI l id = hit at *
  go_enter Tryz.func209, Tryz.ntmps209
  go_wp2_with fail
  go_loopw [9, 10] (fun iv jv wr => BsRel k len w iv jv wr) (fun iv jv _ => (intOf jv).toNat - (intOf iv).toNat)
  case atStart => exact ⟨0, len, rfl, rfl, Nat.zero_le _, hk, Nat.le_refl _, Below.refl _ _⟩
  case round =>
    obtain ⟨i, j, rfl, rfl, hi, hj, hjl, HB⟩ := hrel
    by_cases hlt : i < j
    · obtain ⟨x, hx⟩ : ∃ x, l[(i + j) / 2]? = some x := ⟨_, List.getElem?_eq_getElem (by rw [HN.out]; omega)⟩
      obtain ⟨rfl, hb0⟩ := HR.out.at0 (by rw [HN.out]; omega)
      obtain ⟨c0, c1, c2, c3, c4, c5, c6, c7⟩ := ic_cells (w := wr) (fun q u hu => (HB.out.cell (p := ⟨b, o + (i + j) / 2 * 8 + q, none⟩) hb0).trans (HR.out.cell _ x hx q u hu))
      have zb := Nat.lt_of_lt_of_le hb0 HB.out.size
      have P := PI _ _ hx
      have k1 : (i : Int) < (j : Int) := by omega
      have h1 : (i + j) / 2 < j := by omega
      have h2 : i ≤ (i + j) / 2 := by omega
      have e1 : ((i : Int) + (j : Int)) / 2 = (((i + j) / 2 : Nat) : Int) := by omega
      generalize (i + j) / 2 = h at *
      have q0 : (0 : Int) ≤ (h : Int) := by omega
      have q1 : (h : Int) < (len : Int) := by omega
      cases hs : lsB x.id id
      · have g : decide (cmpS x.id id < 0) = false := by rw [cmpS_neg]; exact hs
        have hle : k ≤ h := by have := P.out; rw [hs] at this; have := of_decide_eq_false this.symm; omega
        clear P PI HH HN0 hs
        go_wp2_with (go_at_call 210; refine (HC _ _).out.mono ?_; rintro e w' ⟨rfl, hb⟩)
        go_roundw
        case rel => exact ⟨i, h, rfl, rfl, hi, hle, by omega, Lib.hid (HB.out.trans (hb.mono HB.out.size))⟩
        case measure => simp [intOf]; omega
      · have g : decide (cmpS x.id id < 0) = true := by rw [cmpS_neg]; exact hs
        have hle : h < k := by have := P.out; rw [hs] at this; have := of_decide_eq_true this.symm; omega
        clear P PI HH HN0 hs
        go_wp2_with (go_at_call 210; refine (HC _ _).out.mono ?_; rintro e w' ⟨rfl, hb⟩)
        go_roundw
        case rel => exact ⟨h + 1, j, by go_num, rfl, hle, hj, hjl, Lib.hid (HB.out.trans (hb.mono HB.out.size))⟩
        case measure => simp [intOf]; omega
    · have e : i = k := by omega
      subst e
      have e : j = i := by omega
      subst e
      clear hi hj
      by_cases hlt2 : j < len
      · obtain ⟨x, hx⟩ : ∃ x, l[j]? = some x := ⟨_, List.getElem?_eq_getElem (by rw [HN.out]; omega)⟩
        obtain ⟨rfl, hb0⟩ := HR.out.at0 (by rw [HN.out]; omega)
        obtain ⟨c0, c1, c2, c3, c4, c5, c6, c7⟩ := ic_cells (w := wr) (fun q u hu => (HB.out.cell (p := ⟨b, o + j * 8 + q, none⟩) hb0).trans (HR.out.cell _ x hx q u hu))
        have zb := Nat.lt_of_lt_of_le hb0 HB.out.size
        have q0 : (0 : Int) ≤ (j : Int) := by omega
        have q1 : (j : Int) < (len : Int) := by omega
        have E := Lib.hid (HH.out x hx)
        clear PI HH HN0 hx
        cases hs : (x.id.toList == id.toList)
        · have g : (cmpS x.id id == 0) = false := by
            have := cmpS_zero x.id id; rw [hs] at this
            rw [beq_eq_false_iff_ne]; exact of_decide_eq_false this
          have E := Lib.hid (E.out.trans hs)
          go_wp2_with (go_at_call 210; refine (HC _ _).out.mono ?_; rintro e w' ⟨rfl, hb⟩)
          go_ret2
          exact ⟨by rw [E.out]; rfl, HB.out.trans (hb.mono HB.out.size)⟩
        · have g : (cmpS x.id id == 0) = true := by
            have := cmpS_zero x.id id; rw [hs] at this
            rw [beq_iff_eq]; exact of_decide_eq_true this
          have E := Lib.hid (E.out.trans hs)
          go_wp2_with (go_at_call 210; refine (HC _ _).out.mono ?_; rintro e w' ⟨rfl, hb⟩)
          go_ret2
          exact ⟨by rw [E.out]; rfl, HB.out.trans (hb.mono HB.out.size)⟩
      · have E := Lib.hid (HN0.out (List.getElem?_eq_none (by rw [HN.out]; omega)))
        go_wp2_with fail
        go_ret2
        exact ⟨by rw [E.out]; rfl, HB.out⟩
set_option maxHeartbeats 400000 in
theorem span_calls (l : List Itm) (id : ByteArray) (v : Value) (w : World) (hR : Row 8 ic w l v) (hr : RiseI l) (hl : l.length ≤ 10000) :
    Calls Tryz.prog 172 #[v, .string id] w fun e w' => e = .returned (.tuple #[.int .i64 (posI l id), .int .i64 (toI l id)]) ∧ Below w.heap.size w w' := by
  have H := Lib.hid (bsearch_calls l id v w hR hr hl)
  obtain ⟨oa, cap, rfl⟩ := hR.val
  have hk := pos_le l id
  unfold toI
  clear hR hr
  generalize hitI l id = hit at *
  generalize posI l id = k at *
  cases hit
  · go_enter Tryz.func172, Tryz.ntmps172
    go_wp2_with (go_at_call 209; refine H.out.mono ?_; rintro e w' ⟨rfl, hb⟩)
    go_ret2
    exact ⟨rfl, hb⟩
  · go_enter Tryz.func172, Tryz.ntmps172
    go_wp2_with (go_at_call 209; refine H.out.mono ?_; rintro e w' ⟨rfl, hb⟩)
    go_ret2
    exact ⟨rfl, hb⟩
end Go.Proofs.YthbjgfennclidaaGreat
