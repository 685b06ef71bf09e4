/- Which items a filter has: plain mathematics. No walk. -/
import Derived.Test.YtechmejmlelmmaaPlainM
import Derived.Test.YtechmejmlelmmaaFarM
namespace Go.Proofs.Ytechmejmlelmmaa
set_option linter.unusedVariables false
set_option linter.unusedSimpArgs false
set_option maxRecDepth 100000

/-- What is asked of an item: its name, kind, number, place. -/
structure It where
  id : ByteArray
  kd : ByteArray
  num : Int
  ax : Nat
  ay : Nat

def begB (s t : ByteArray) : Bool := t.data.toList.isPrefixOf s.data.toList

namespace Pr
mutual
def hasB (i : It) : Pr → Bool
  | node op t n x y k =>
    if op = 1 then true
    else if op = 3 then decide (i.kd.toList = t.toList)
    else if op = 4 then begB i.id t
    else if op = 5 then decide (i.num < n)
    else if op = 6 then decide (n ≤ i.num)
    else if op = 7 then nearB i.ax i.ay x y n
    else if op = 8 then hasAll i k
    else if op = 9 then hasAny i k
    else if op = 10 then hasNot i k
    else false
def hasAll (i : It) : List Pr → Bool | [] => true | a :: l => hasB i a && hasAll i l
def hasAny (i : It) : List Pr → Bool | [] => false | a :: l => hasB i a || hasAny i l
def hasNot (i : It) : List Pr → Bool | [] => false | a :: _ => !hasB i a
end

theorem has_star {i : It} {k : Pr} (h : k.op = 1) : hasB i k = true := by cases k; simp only [op_node] at h; subst h; simp [hasB]
theorem has_none {i : It} {k : Pr} (h : k.op = 2) : hasB i k = false := by cases k; simp only [op_node] at h; subst h; simp [hasB]
theorem has_and {i : It} {k : Pr} (h : k.op = 8) : hasB i k = hasAll i k.kids := by cases k; simp only [op_node] at h; subst h; simp [hasB, kids]
theorem has_or {i : It} {k : Pr} (h : k.op = 9) : hasB i k = hasAny i k.kids := by cases k; simp only [op_node] at h; subst h; simp [hasB, kids]
theorem has_not {i : It} {k : Pr} (h : k.op = 10) : hasB i k = hasNot i k.kids := by cases k; simp only [op_node] at h; subst h; simp [hasB, kids]
theorem hasAny_append (i : It) (l m : List Pr) : hasAny i (l ++ m) = (hasAny i l || hasAny i m) := by
  induction l with
  | nil => simp [hasAny]
  | cons a l ih => simp [hasAny, ih, Bool.or_assoc]
theorem hasAll_append (i : It) (l m : List Pr) : hasAll i (l ++ m) = (hasAll i l && hasAll i m) := by
  induction l with
  | nil => simp [hasAll]
  | cons a l ih => simp [hasAll, ih, Bool.and_assoc]
theorem hasAny_mem {i : It} {l : List Pr} {a : Pr} (h : a ∈ l) (ha : hasB i a = true) : hasAny i l = true := by
  induction l with
  | nil => simp at h
  | cons b l ih =>
    simp only [hasAny, Bool.or_eq_true]
    rcases List.mem_cons.1 h with rfl | h
    · exact .inl ha
    · exact .inr (ih h)
theorem hasAll_mem {i : It} {l : List Pr} {a : Pr} (h : a ∈ l) (ha : hasB i a = false) : hasAll i l = false := by
  induction l with
  | nil => simp at h
  | cons b l ih =>
    simp only [hasAll, Bool.and_eq_false_iff]
    rcases List.mem_cons.1 h with rfl | h
    · exact .inl ha
    · exact .inr (ih h)

/-! ### What is the same has the same items -/
theorem part_near {t : ByteArray} {n : Int} {x y k : Nat} (h : partB 7 t n x y k = true) : Fl.wb x = true ∧ Fl.wb y = true := by
  simp [partB, Proofs.Ytechmejmlelmmaa.mayB] at h
  exact h.1.1
theorem feq_iv {x x' : Nat} (h : feq x x' = true) (hx : Fl.wb x = true) (hx' : Fl.wb x' = true) : Fl.iv x = Fl.iv x' := by
  have h1 := Fl.order_int (Fl.wb_int hx).1 (Fl.wb_int hx').1
  unfold feq at h
  have h2 : FloatKind.f64.format.order x x' = some (compare (Fl.iv x) (Fl.iv x')) := h1
  rw [h2] at h
  simp at h
  exact h
theorem near_same {a b x y x' y' : Nat} {n : Int} (h1 : feq x x' = true) (h2 : feq y y' = true) (hx : Fl.wb x = true) (hx' : Fl.wb x' = true) (hy : Fl.wb y = true) (hy' : Fl.wb y' = true) : nearB a b x y n = nearB a b x' y' n := by
  have e : farV a b x y = farV a b x' y' := by
    unfold farV Proofs.Ytechmejmlelmmaa.mayB
    rw [hx, hx', hy, hy', feq_iv h1 hx hx', feq_iv h2 hy hy']
  unfold nearB; rw [e]

theorem same_has (i : It) : ∀ p q : Pr, p.all = true → q.all = true → same p q = true → hasB i p = hasB i q := by
  intro p
  induction p using ind with
  | h op t n x y k ih =>
    intro q ha hb hs
    obtain ⟨op', t', n', x', y', k'⟩ := q
    simp only [same, Bool.and_eq_true, decide_eq_true_eq] at hs
    obtain ⟨rfl, ht, rfl, ⟨hx, hy⟩, hk⟩ := hs
    simp only [all, Bool.and_eq_true] at ha hb
    have hl : hasAll i k = hasAll i k' ∧ hasAny i k = hasAny i k' ∧ hasNot i k = hasNot i k' := by
      have h1 := ha.2
      have h2 := hb.2
      clear ha hb
      induction k generalizing k' with
      | nil => cases k' with
        | nil => exact ⟨rfl, rfl, rfl⟩
        | cons b m => simp [sames] at hk
      | cons a l ihl => cases k' with
        | nil => simp [sames] at hk
        | cons b m =>
          simp only [sames, Bool.and_eq_true] at hk
          simp only [alls, Bool.and_eq_true] at h1 h2
          have e := ih a (by simp) b h1.1 h2.1 hk.1
          have e2 := ihl (fun c hc => ih c (by simp [hc])) m hk.2 h1.2 h2.2
          simp only [hasAll, hasAny, hasNot, e, e2.1, e2.2.1, and_self]
    have htt : t.data.toList = t'.data.toList := by rw [ByteArray.toList_eq, ByteArray.toList_eq] at ht; exact ht
    simp only [hasB, hl.1, hl.2.1, hl.2.2, ht, begB, htt]
    by_cases h7 : op = 7
    · subst h7
      obtain ⟨w1, w2⟩ := part_near ha.1
      obtain ⟨w3, w4⟩ := part_near hb.1
      rw [near_same hx hy w1 w3 w2 w4]
    · simp only [if_neg h7]

/-! ### Made plain it has the same -/
theorem any_flat (i : It) (l : List Pr) : hasAny i (flat 9 l) = hasAny i l := by
  induction l with
  | nil => simp [flat]
  | cons k l ih =>
    simp only [flat, hasAny_append, hasAny, ih]
    split
    · rw [has_or ‹_›]
    · simp [hasAny]
theorem all_flat (i : It) (l : List Pr) : hasAll i (flat 8 l) = hasAll i l := by
  induction l with
  | nil => simp [flat]
  | cons k l ih =>
    simp only [flat, hasAll_append, hasAll, ih]
    split
    · rw [has_and ‹_›]
    · simp [hasAll]
theorem twice_mem {l : List Pr} {a : Pr} (h : twice l a = true) : ∃ b ∈ l, same b a = true := by
  unfold twice at h; rw [List.any_eq_true] at h; exact h
theorem any_keepFrom (i : It) (pre l : List Pr) (h : alls (pre ++ l) = true) : (hasAny i pre || hasAny i (keepFrom 2 pre l)) = (hasAny i pre || hasAny i l) := by
  induction l generalizing pre with
  | nil => simp [keepFrom]
  | cons a l ih =>
    have e : alls ((pre ++ [a]) ++ l) = true := by simpa using h
    have h1 := ih (pre ++ [a]) e
    rw [hasAny_append] at h1
    simp only [hasAny, Bool.or_false] at h1
    simp only [keepFrom, hasAny_append, hasAny]
    split
    · rename_i hc
      have h0 : (hasAny i pre || hasB i a) = hasAny i pre := by
        rcases hc with hc | hc
        · obtain ⟨b, hb, hs⟩ := twice_mem hc
          have eb := same_has i b a (alls_iff.1 h b (by simp [hb])) (alls_iff.1 h a (by simp)) hs
          cases ha : hasB i a
          · simp
          · rw [ha] at eb; simp [hasAny_mem hb eb]
        · simp [has_none hc]
      rw [h0] at h1
      simp only [hasAny, Bool.false_or]
      rw [h1, ← Bool.or_assoc, h0]
    · simp only [hasAny, Bool.or_false]
      rw [← Bool.or_assoc, h1, Bool.or_assoc]
theorem all_keepFrom (i : It) (pre l : List Pr) (h : alls (pre ++ l) = true) : (hasAll i pre && hasAll i (keepFrom 1 pre l)) = (hasAll i pre && hasAll i l) := by
  induction l generalizing pre with
  | nil => simp [keepFrom]
  | cons a l ih =>
    have e : alls ((pre ++ [a]) ++ l) = true := by simpa using h
    have h1 := ih (pre ++ [a]) e
    rw [hasAll_append] at h1
    simp only [hasAll, Bool.and_true] at h1
    simp only [keepFrom, hasAll_append, hasAll]
    split
    · rename_i hc
      have h0 : (hasAll i pre && hasB i a) = hasAll i pre := by
        rcases hc with hc | hc
        · obtain ⟨b, hb, hs⟩ := twice_mem hc
          have eb := same_has i b a (alls_iff.1 h b (by simp [hb])) (alls_iff.1 h a (by simp)) hs
          cases ha : hasB i a
          · rw [ha] at eb; simp [hasAll_mem hb eb]
          · simp
        · simp [has_star hc]
      rw [h0] at h1
      simp only [hasAll, Bool.true_and]
      rw [h1, ← Bool.and_assoc, h0]
    · simp only [hasAll, Bool.and_true]
      rw [← Bool.and_assoc, h1, Bool.and_assoc]
theorem any_keep (i : It) (l : List Pr) (h : alls l = true) : hasAny i (keep 2 l) = hasAny i l := by
  unfold keep
  have := any_keepFrom i [] l (by simpa using h); simpa [hasAny] using this
theorem all_keep (i : It) (l : List Pr) (h : alls l = true) : hasAll i (keep 1 l) = hasAll i l := by
  unfold keep
  have := all_keepFrom i [] l (by simpa using h); simpa [hasAll] using this
theorem hasOp_mem {o : Int} {l : List Pr} (h : hasOp o l = true) : ∃ a ∈ l, a.op = o := by
  unfold hasOp at h; rw [List.any_eq_true] at h
  obtain ⟨a, ha, e⟩ := h
  exact ⟨a, ha, by simpa using e⟩
theorem out_or (i : It) (t : ByteArray) (n : Int) (x y : Nat) (l : List Pr) : hasB i (outOf 9 t n x y l) = hasAny i l := by
  unfold outOf; split
  · rw [show noOf 9 = 2 from rfl, has_none rfl]; rfl
  · simp [hasAny]
  · rw [has_or rfl]; rfl
theorem out_and (i : It) (t : ByteArray) (n : Int) (x y : Nat) (l : List Pr) : hasB i (outOf 8 t n x y l) = hasAll i l := by
  unfold outOf; split
  · rw [show noOf 8 = 1 from rfl, has_star rfl]; rfl
  · simp [hasAll]
  · rw [has_and rfl]; rfl
theorem glue_or (i : It) (t : ByteArray) (n : Int) (x y : Nat) (l : List Pr) (h : alls l = true) : hasB i (glue 9 t n x y l) = hasAny i l := by
  unfold glue
  rw [show noOf 9 = 2 from rfl]
  split
  · rename_i hh
    obtain ⟨a, ha, e⟩ := hasOp_mem hh
    rw [has_star rfl, ← any_flat, hasAny_mem ha (has_star e)]
  · rw [out_or, any_keep i _ (flat_all h), any_flat]
theorem glue_and (i : It) (t : ByteArray) (n : Int) (x y : Nat) (l : List Pr) (h : alls l = true) : hasB i (glue 8 t n x y l) = hasAll i l := by
  unfold glue
  rw [show noOf 8 = 1 from rfl]
  split
  · rename_i hh
    obtain ⟨a, ha, e⟩ := hasOp_mem hh
    rw [has_none rfl, ← all_flat, hasAll_mem ha (has_none e)]
  · rw [out_and, all_keep i _ (flat_all h), all_flat]

theorem plain_has (i : It) : ∀ p : Pr, p.all = true → hasB i p.plain = hasB i p := by
  intro p
  induction p using ind with
  | h op t n x y k ih =>
    intro ha
    simp only [all, Bool.and_eq_true] at ha
    have hl : hasAll i (plains k) = hasAll i k ∧ hasAny i (plains k) = hasAny i k ∧ hasNot i (plains k) = hasNot i k := by
      have h1 := ha.2
      clear ha
      induction k with
      | nil => simp [plains]
      | cons a l ihl =>
        simp only [alls, Bool.and_eq_true] at h1
        have e := ih a (by simp) h1.1
        have e2 := ihl (fun c hc => ih c (by simp [hc])) h1.2
        simp only [plains, hasAll, hasAny, hasNot, e, e2.1, e2.2.1, and_self]
    have hal : alls (plains k) = true := by
      rw [alls_iff]
      intro a h
      rw [plains_map, List.mem_map] at h
      obtain ⟨b, hb, rfl⟩ := h
      exact (plain_good b (all_mem hb ha.2)).2.1
    simp only [plain]
    unfold finish
    split
    · rename_i e10
      subst e10
      have hk := part10 ha.1
      have : ∃ a, k = [a] := by
        match k, hk with
        | [a], _ => exact ⟨a, rfl⟩
      obtain ⟨a, rfl⟩ := this
      rw [has_not (k := .node 10 t n x y [a]) rfl]
      simp only [kids_node]
      rw [← hl.2.2]
      simp only [plains, hasNot, turn]
      split
      · rename_i h12
        rcases h12 with h12 | h12
        · rw [h12, has_star h12]; exact has_none rfl
        · rw [h12, has_none h12]; exact has_star rfl
      split
      · rename_i h12 h10
        have hA := (plain_good a (all_mem (l := [a]) (by simp) ha.2)).1
        obtain ⟨c, hc, _⟩ := hA.not h10
        rw [has_not h10, hc]
        simp [hasNot]
      · rw [has_not rfl]; rfl
    split
    · rename_i h10 h89
      rcases h89 with rfl | rfl
      · rw [glue_and i t n x y _ hal, has_and rfl, hl.1]; rfl
      · rw [glue_or i t n x y _ hal, has_or rfl, hl.2.1]; rfl
    · rename_i h10 h89
      simp only [hasB, if_neg h10, if_neg (fun h => h89 (.inl h)), if_neg (fun h => h89 (.inr h))]
end Pr

end Go.Proofs.Ytechmejmlelmmaa
