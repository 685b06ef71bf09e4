/- What is known: plain mathematics. No walk. -/
import Derived.Test.YthhbjgecdhogoaaOrd
import Derived.Test.YthhbjgecdhogoaaVecM
namespace Go.Proofs.Ythhbjgecdhogoaa
set_option linter.unusedVariables false
set_option linter.unusedSimpArgs false
open Go.RowKit

/-- A piece; what is known. -/
structure Fr where
  ids : List ByteArray
  v : Nat → Int
structure Kn where
  star : Nat → Int
  l : List Fr

def eqV (A B : Nat → Int) : Bool := (List.range 8).all fun k => A k == B k
theorem eqV_iff {A B : Nat → Int} : eqV A B = true ↔ ∀ k, k < 8 → A k = B k := by simp [eqV, List.all_eq_true]
theorem eqV_refl (A : Nat → Int) : eqV A A = true := eqV_iff.2 fun _ _ => rfl
def zeroV : Nat → Int := fun _ => 0
/-- Nothing beyond the eighth. -/
def Trunc8 (A : Nat → Int) : Prop := ∀ j, 8 ≤ j → A j = 0
theorem eqV_eq {A B : Nat → Int} (hA : Trunc8 A) (hB : Trunc8 B) (h : eqV A B = true) : A = B := by
  funext j
  by_cases hj : j < 8
  · exact eqV_iff.1 h j hj
  · rw [hA j (by omega), hB j (by omega)]

/-! ### Texts among others; one put among them -/
def amongB (l : List ByteArray) (s : ByteArray) : Bool := l.any fun x => x.toList == s.toList
theorem among_iff {l : List ByteArray} {s : ByteArray} : amongB l s = true ↔ s ∈ l := by
  unfold amongB
  rw [List.any_eq_true]
  constructor
  · rintro ⟨x, hx, e⟩; rw [tl_eq.1 e] at hx; exact hx
  · intro h; exact ⟨s, h, tl_eq.2 rfl⟩
def insStep (s : ByteArray) (st : List ByteArray × Bool) (a : ByteArray) : List ByteArray × Bool :=
  let p := !st.2 && leB s a
  let o := if p = true then st.1 ++ [s] else st.1
  (if (a.toList == s.toList) = true then o else o ++ [a], st.2 || p)
def insF (s : ByteArray) (l : List ByteArray) : List ByteArray × Bool := l.foldl (insStep s) ([], false)
def insB (l : List ByteArray) (s : ByteArray) : List ByteArray := if (insF s l).2 = true then (insF s l).1 else (insF s l).1 ++ [s]
def insR (s : ByteArray) : List ByteArray → List ByteArray
  | [] => [s]
  | a :: l => if leB s a = true then s :: (a :: l).filter (fun x => !(x.toList == s.toList)) else a :: insR s l
theorem ins_done (s : ByteArray) (l : List ByteArray) : ∀ o : List ByteArray, l.foldl (insStep s) (o, true) = (o ++ l.filter (fun x => !(x.toList == s.toList)), true) := by
  induction l with
  | nil => intro o; simp
  | cons a l ih =>
    intro o
    rw [List.foldl_cons]
    have e : insStep s (o, true) a = (if (a.toList == s.toList) = true then o else o ++ [a], true) := by simp [insStep]
    rw [e, ih]
    cases h : (a.toList == s.toList) <;> simp [h]
theorem ins_go (s : ByteArray) (l : List ByteArray) : ∀ o : List ByteArray, (if (l.foldl (insStep s) (o, false)).2 = true then (l.foldl (insStep s) (o, false)).1 else (l.foldl (insStep s) (o, false)).1 ++ [s]) = o ++ insR s l := by
  induction l with
  | nil => intro o; simp [insR]
  | cons a l ih =>
    intro o
    rw [List.foldl_cons, insR]
    cases h : leB s a with
    | true =>
      have e : insStep s (o, false) a = (if (a.toList == s.toList) = true then o ++ [s] else o ++ [s] ++ [a], true) := by simp [insStep, h]
      rw [e, ins_done]
      cases h' : (a.toList == s.toList) <;> simp [h']
    | false =>
      have hn : (a.toList == s.toList) = false := tl_ne.2 (ls_ne (le_not h))
      have e : insStep s (o, false) a = (o ++ [a], false) := by simp [insStep, h, hn]
      rw [e, ih]
      simp
theorem ins_eq (l : List ByteArray) (s : ByteArray) : insB l s = insR s l := by
  exact (ins_go s l []).trans (List.nil_append _)
theorem mem_ins {l : List ByteArray} {s x : ByteArray} : x ∈ insB l s ↔ x = s ∨ x ∈ l := by
  rw [ins_eq]
  induction l with
  | nil => simp [insR]
  | cons a l ih =>
    rw [insR]
    cases h : leB s a with
    | true =>
      simp only [if_true, List.mem_cons, List.mem_filter, Bool.not_eq_true', tl_ne]
      constructor
      · rintro (h | ⟨h, _⟩)
        · exact .inl h
        · exact .inr h
      · rintro (h | h)
        · exact .inl h
        · by_cases e : x = s
          · exact .inl e
          · exact .inr ⟨h, e⟩
    | false =>
      simp only [Bool.false_eq_true, if_false, List.mem_cons, ih]
      constructor
      · rintro (h | h | h)
        · exact .inr (.inl h)
        · exact .inl h
        · exact .inr (.inr h)
      · rintro (h | h | h)
        · exact .inr (.inl h)
        · exact .inl h
        · exact .inr (.inr h)
theorem rise_ins {l : List ByteArray} {s : ByteArray} (h : Rise l) : Rise (insB l s) := by
  rw [ins_eq]
  induction l with
  | nil => simp [insR, Rise]
  | cons a l ih =>
    rw [rise_cons] at h
    rw [insR]
    cases hs : leB s a with
    | true =>
      rw [if_pos rfl, rise_cons]
      refine ⟨fun x hx => ?_, rise_filter (rise_cons.2 h)⟩
      rw [List.mem_filter] at hx
      obtain ⟨hx, hne⟩ := hx
      rw [Bool.not_eq_true', tl_ne] at hne
      have hax : x = a ∨ lsB a x = true := by
        rcases List.mem_cons.1 hx with e | hx
        · exact .inl e
        · exact .inr (h.1 x hx)
      rcases le_iff.1 hs with h1 | h1
      · rcases hax with e | h2
        · subst e; exact h1
        · exact ls_trans h1 h2
      · subst h1
        rcases hax with e | h2
        · exact absurd e hne
        · exact h2
    | false =>
      rw [if_neg (by simp), rise_cons]
      refine ⟨fun x hx => ?_, ih h.2⟩
      rw [← ins_eq, mem_ins] at hx
      rcases hx with e | hx
      · subst e; exact le_not hs
      · exact h.1 x hx
theorem len_ins (l : List ByteArray) (s : ByteArray) : (insB l s).length ≤ l.length + 1 := by
  rw [ins_eq]
  induction l with
  | nil => simp [insR]
  | cons a l ih =>
    rw [insR]
    split
    · have := List.length_filter_le (fun x : ByteArray => !(x.toList == s.toList)) (a :: l)
      simp only [List.length_cons] at *; omega
    · simp only [List.length_cons]; omega

/-- All Ids, rising. -/
def insAll (l : List ByteArray) : List ByteArray := l.foldl insB []
def flatI (l : List Fr) : List ByteArray := l.flatMap (·.ids)
def namesB (k : Kn) : List ByteArray := insAll (flatI k.l)
theorem insAll_snoc (l : List ByteArray) (s : ByteArray) : insAll (l ++ [s]) = insB (insAll l) s := by simp [insAll]
theorem foldl_ins (l : List ByteArray) : ∀ o : List ByteArray, Rise o → Rise (l.foldl insB o) ∧ (∀ x, x ∈ l.foldl insB o ↔ x ∈ o ∨ x ∈ l) ∧ (l.foldl insB o).length ≤ o.length + l.length := by
  induction l with
  | nil => intro o h; exact ⟨h, fun x => by simp, by simp⟩
  | cons a l ih =>
    intro o h
    obtain ⟨h1, h2, h3⟩ := ih (insB o a) (rise_ins h)
    refine ⟨h1, fun x => ?_, ?_⟩
    · rw [List.foldl_cons, h2, mem_ins, List.mem_cons]
      constructor
      · rintro ((h | h) | h)
        · exact .inr (.inl h)
        · exact .inl h
        · exact .inr (.inr h)
      · rintro (h | h | h)
        · exact .inl (.inr h)
        · exact .inl (.inl h)
        · exact .inr h
    · have := len_ins o a
      simp only [List.foldl_cons, List.length_cons] at *; omega
theorem rise_all (l : List ByteArray) : Rise (insAll l) := (foldl_ins l [] (by simp [Rise])).1
theorem mem_all {l : List ByteArray} {x : ByteArray} : x ∈ insAll l ↔ x ∈ l := by
  have := (foldl_ins l [] (by simp [Rise])).2.1 x
  unfold insAll
  simpa using this
theorem len_all (l : List ByteArray) : (insAll l).length ≤ l.length := by
  have := (foldl_ins l [] (by simp [Rise])).2.2
  unfold insAll
  simpa using this
theorem mem_names {k : Kn} {x : ByteArray} : x ∈ namesB k ↔ ∃ f ∈ k.l, x ∈ f.ids := by
  unfold namesB flatI
  rw [mem_all, List.mem_flatMap]

/-! ### What the pieces know -/
def rawStep (id : ByteArray) (A : Nat → Int) (f : Fr) : Nat → Int := if amongB f.ids id = true then maxV A f.v else A
def rawF (l : List Fr) (id : ByteArray) : Nat → Int := l.foldl (rawStep id) zeroV
def beyB (k : Kn) (id : ByteArray) (j : Nat) : Int := if j < 8 then (if rawF k.l id j ≤ k.star j then 0 else rawF k.l id j) else 0
theorem bey_trunc (k : Kn) (id : ByteArray) : Trunc8 (beyB k id) := fun j hj => by unfold beyB; rw [if_neg (by omega)]
theorem raw_spec' (id : ByteArray) (l : List Fr) (j : Nat) : ∀ A : Nat → Int, A j ≤ l.foldl (rawStep id) A j ∧ (∀ f ∈ l, id ∈ f.ids → f.v j ≤ l.foldl (rawStep id) A j) ∧ (l.foldl (rawStep id) A j = A j ∨ ∃ f ∈ l, id ∈ f.ids ∧ l.foldl (rawStep id) A j = f.v j) := by
  induction l with
  | nil => intro A; simp
  | cons g l ih =>
    intro A
    rw [List.foldl_cons]
    obtain ⟨h1, h2, h3⟩ := ih (rawStep id A g)
    have hs : A j ≤ rawStep id A g j ∧ (id ∈ g.ids → g.v j ≤ rawStep id A g j) ∧ (rawStep id A g j = A j ∨ id ∈ g.ids ∧ rawStep id A g j = g.v j) := by
      unfold rawStep
      by_cases h : amongB g.ids id = true
      · rw [if_pos h]
        have hm := among_iff.1 h
        unfold maxV
        split
        · exact ⟨by omega, fun _ => by omega, .inr ⟨hm, rfl⟩⟩
        · exact ⟨by omega, fun _ => by omega, .inl rfl⟩
      · rw [if_neg h]
        exact ⟨by omega, fun hm => absurd (among_iff.2 hm) h, .inl rfl⟩
    refine ⟨by omega, fun f hf hm => ?_, ?_⟩
    · rcases List.mem_cons.1 hf with e | hf
      · subst e; have := hs.2.1 hm; omega
      · exact h2 f hf hm
    · rcases h3 with h3 | ⟨f, hf, hm, e⟩
      · rcases hs.2.2 with h | ⟨hm, h⟩
        · exact .inl (by rw [h3, h])
        · exact .inr ⟨g, by simp, hm, by rw [h3, h]⟩
      · exact .inr ⟨f, by simp [hf], hm, e⟩
theorem raw_nonneg (l : List Fr) (id : ByteArray) (j : Nat) : 0 ≤ rawF l id j := (raw_spec' id l j zeroV).1
theorem raw_ge {l : List Fr} {id : ByteArray} {f : Fr} (hf : f ∈ l) (hm : id ∈ f.ids) (j : Nat) : f.v j ≤ rawF l id j := (raw_spec' id l j zeroV).2.1 f hf hm
theorem raw_is (l : List Fr) (id : ByteArray) (j : Nat) : rawF l id j = 0 ∨ ∃ f ∈ l, id ∈ f.ids ∧ rawF l id j = f.v j := (raw_spec' id l j zeroV).2.2
theorem bey_nonneg (k : Kn) (id : ByteArray) (j : Nat) : 0 ≤ beyB k id j := by
  unfold beyB
  have := raw_nonneg k.l id j
  split
  · split <;> omega
  · omega
theorem raw_none {l : List Fr} {id : ByteArray} (h : ∀ f ∈ l, id ∉ f.ids) (j : Nat) : rawF l id j = 0 := by
  rcases raw_is l id j with h' | ⟨f, hf, hm, _⟩
  · exact h'
  · exact absurd hm (h f hf)
theorem bey_none {k : Kn} {id : ByteArray} (h : id ∉ namesB k) : beyB k id = zeroV := by
  have h0 := fun j => raw_none (l := k.l) (id := id) (fun f hf hm => h (mem_names.2 ⟨f, hf, hm⟩)) j
  funext j
  unfold beyB zeroV
  rw [h0 j]
  split
  · split <;> rfl
  · rfl
theorem raw_append (l m : List Fr) (id : ByteArray) (j : Nat) : rawF (l ++ m) id j = maxV (rawF l id) (rawF m id) j := by
  have a1 := raw_nonneg l id j
  have a2 := raw_nonneg m id j
  have a3 := raw_nonneg (l ++ m) id j
  have b1 : rawF l id j ≤ rawF (l ++ m) id j := by
    rcases raw_is l id j with h | ⟨f, hf, hm, e⟩
    · omega
    · rw [e]; exact raw_ge (by simp [hf]) hm j
  have b2 : rawF m id j ≤ rawF (l ++ m) id j := by
    rcases raw_is m id j with h | ⟨f, hf, hm, e⟩
    · omega
    · rw [e]; exact raw_ge (by simp [hf]) hm j
  have b3 : rawF (l ++ m) id j ≤ rawF l id j ∨ rawF (l ++ m) id j ≤ rawF m id j := by
    rcases raw_is (l ++ m) id j with h | ⟨f, hf, hm, e⟩
    · left; omega
    · rcases List.mem_append.1 hf with hf | hf
      · left; rw [e]; exact raw_ge hf hm j
      · right; rw [e]; exact raw_ge hf hm j
  unfold maxV
  split <;> omega

/-! ### Made plain -/
def putF (v : Nat → Int) (id : ByteArray) : List Fr → List Fr
  | [] => [⟨[id], v⟩]
  | f :: l => if eqV f.v v = true then ⟨f.ids ++ [id], f.v⟩ :: l else f :: putF v id l
def grpStep (F : ByteArray → Nat → Int) (o : List Fr) (id : ByteArray) : List Fr := if eqV (F id) zeroV = true then o else putF (F id) id o
def grpF (F : ByteArray → Nat → Int) (ids : List ByteArray) : List Fr := ids.foldl (grpStep F) []
def plainB (k : Kn) : Kn := ⟨k.star, grpF (beyB k) (namesB k)⟩
def joinK (a b : Kn) : Kn := ⟨maxV a.star b.star, a.l ++ b.l⟩
def withK (k : Kn) (id : ByteArray) (r c : Int) : Kn := ⟨k.star, k.l ++ [⟨[id], withV zeroV r c⟩]⟩
def ownK (k : Kn) (id : ByteArray) (r c : Int) : Kn := if (r < 1 ∨ 8 < r ∨ c < 1) ∨ k.star (r - 1).toNat ≠ c - 1 then withK k id r c else ⟨withV k.star r c, k.l⟩
def hasFr (id : ByteArray) (r c : Int) (f : Fr) : Bool := amongB f.ids id && hasV f.v r c
def hasK (k : Kn) (id : ByteArray) (r c : Int) : Bool := hasV k.star r c || k.l.any (hasFr id r c)
def eqIds : List ByteArray → List ByteArray → Bool
  | [], [] => true
  | a :: l, b :: m => (a.toList == b.toList) && eqIds l m
  | _, _ => false
def eqFr (a b : Fr) : Bool := eqV a.v b.v && eqIds a.ids b.ids
def eqFrs : List Fr → List Fr → Bool
  | [], [] => true
  | a :: l, b :: m => eqFr a b && eqFrs l m
  | _, _ => false
def alikeK (a b : Kn) : Bool := eqV a.star b.star && eqFrs a.l b.l
def sameK (a b : Kn) : Bool := alikeK (plainB a) (plainB b)
theorem eqIds_refl : ∀ l : List ByteArray, eqIds l l = true
  | [] => rfl
  | a :: l => by simp [eqIds, eqIds_refl l]
theorem eqFrs_refl : ∀ l : List Fr, eqFrs l l = true
  | [] => rfl
  | a :: l => by simp [eqFrs, eqFr, eqV_refl, eqIds_refl, eqFrs_refl l]
theorem alike_of {a b : Kn} (hs : eqV a.star b.star = true) (hl : a.l = b.l) : alikeK a b = true := by
  unfold alikeK; rw [hs, hl, eqFrs_refl]; rfl
theorem alike_refl (a : Kn) : alikeK a a = true := alike_of (eqV_refl _) rfl

theorem grp_filter (F : ByteArray → Nat → Int) (ids : List ByteArray) : ∀ o : List Fr, ids.foldl (grpStep F) o = (ids.filter fun x => !eqV (F x) zeroV).foldl (grpStep F) o := by
  induction ids with
  | nil => intro o; rfl
  | cons a l ih =>
    intro o
    rw [List.foldl_cons, ih]
    cases h : eqV (F a) zeroV with
    | true => simp [h, grpStep]
    | false => simp [h]
theorem mem_putF {v : Nat → Int} {id : ByteArray} : ∀ {o : List Fr} {f : Fr}, f ∈ putF v id o → f ∈ o ∨ f = ⟨[id], v⟩ ∨ ∃ g ∈ o, eqV g.v v = true ∧ f = ⟨g.ids ++ [id], g.v⟩
  | [], f, h => by simp only [putF, List.mem_singleton] at h; exact .inr (.inl h)
  | g :: o, f, h => by
    rw [putF] at h
    by_cases e : eqV g.v v = true
    · rw [if_pos e] at h
      rcases List.mem_cons.1 h with h | h
      · exact .inr (.inr ⟨g, by simp, e, h⟩)
      · exact .inl (by simp [h])
    · rw [if_neg e] at h
      rcases List.mem_cons.1 h with h | h
      · exact .inl (by simp [h])
      · rcases mem_putF h with h | h | ⟨g', hg, e', h⟩
        · exact .inl (by simp [h])
        · exact .inr (.inl h)
        · exact .inr (.inr ⟨g', by simp [hg], e', h⟩)
theorem put_has {v : Nat → Int} {id : ByteArray} : ∀ {o : List Fr}, ∃ f ∈ putF v id o, id ∈ f.ids
  | [] => ⟨⟨[id], v⟩, by simp [putF], by simp⟩
  | g :: o => by
    rw [putF]
    by_cases e : eqV g.v v = true
    · rw [if_pos e]; exact ⟨⟨g.ids ++ [id], g.v⟩, by simp, by simp⟩
    · rw [if_neg e]
      obtain ⟨f, hf, hm⟩ := put_has (v := v) (id := id) (o := o)
      exact ⟨f, by simp [hf], hm⟩
theorem put_keeps {v : Nat → Int} {id x : ByteArray} : ∀ {o : List Fr}, (∃ f ∈ o, x ∈ f.ids) → ∃ f ∈ putF v id o, x ∈ f.ids
  | [], ⟨f, hf, _⟩ => by simp at hf
  | g :: o, ⟨f, hf, hm⟩ => by
    rw [putF]
    by_cases e : eqV g.v v = true
    · rw [if_pos e]
      rcases List.mem_cons.1 hf with h | h
      · subst h; exact ⟨⟨f.ids ++ [id], f.v⟩, by simp, by simp [hm]⟩
      · exact ⟨f, by simp [h], hm⟩
    · rw [if_neg e]
      rcases List.mem_cons.1 hf with h | h
      · subst h; exact ⟨f, by simp, hm⟩
      · obtain ⟨f', hf', hm'⟩ := put_keeps (v := v) (id := id) (o := o) ⟨f, h, hm⟩
        exact ⟨f', by simp [hf'], hm'⟩
theorem grp_facts {F : ByteArray → Nat → Int} (hF : ∀ x, Trunc8 (F x)) (ids : List ByteArray) : ∀ o : List Fr, (∀ f ∈ o, Trunc8 f.v ∧ ∀ x ∈ f.ids, f.v = F x) →
    (∀ f ∈ ids.foldl (grpStep F) o, Trunc8 f.v ∧ ∀ x ∈ f.ids, f.v = F x) ∧ (∀ x, (∃ f ∈ o, x ∈ f.ids) ∨ (x ∈ ids ∧ eqV (F x) zeroV = false) → ∃ f ∈ ids.foldl (grpStep F) o, x ∈ f.ids) := by
  induction ids with
  | nil => intro o h; exact ⟨h, fun x hx => by rcases hx with hx | ⟨hx, _⟩; exact hx; simp at hx⟩
  | cons a l ih =>
    intro o h
    rw [List.foldl_cons]
    cases e : eqV (F a) zeroV with
    | true =>
      have : grpStep F o a = o := by simp [grpStep, e]
      rw [this]
      refine ⟨(ih o h).1, fun x hx => (ih o h).2 x ?_⟩
      rcases hx with hx | ⟨hx, hz⟩
      · exact .inl hx
      · rcases List.mem_cons.1 hx with h' | h'
        · subst h'; rw [e] at hz; cases hz
        · exact .inr ⟨h', hz⟩
    | false =>
      have e' : grpStep F o a = putF (F a) a o := by simp [grpStep, e]
      rw [e']
      have h1 : ∀ f ∈ putF (F a) a o, Trunc8 f.v ∧ ∀ x ∈ f.ids, f.v = F x := by
        intro f hf
        rcases mem_putF hf with hf | hf | ⟨g, hg, eg, hf⟩
        · exact h f hf
        · subst hf
          exact ⟨hF a, fun x hx => by simp at hx; rw [hx]⟩
        · subst hf
          refine ⟨(h g hg).1, fun x hx => ?_⟩
          rcases List.mem_append.1 hx with hx | hx
          · exact (h g hg).2 x hx
          · simp at hx; subst hx; exact eqV_eq (h g hg).1 (hF x) eg
      refine ⟨(ih _ h1).1, fun x hx => (ih _ h1).2 x ?_⟩
      rcases hx with hx | ⟨hx, hz⟩
      · exact .inl (put_keeps hx)
      · rcases List.mem_cons.1 hx with h' | h'
        · subst h'; exact .inl put_has
        · exact .inr ⟨h', hz⟩
theorem put_ids {v : Nat → Int} {id x : ByteArray} : ∀ {o : List Fr}, (∃ f ∈ putF v id o, x ∈ f.ids) → x = id ∨ ∃ f ∈ o, x ∈ f.ids := by
  rintro o ⟨f, hf, hm⟩
  rcases mem_putF hf with hf | hf | ⟨g, hg, _, hf⟩
  · exact .inr ⟨f, hf, hm⟩
  · subst hf; simp at hm; exact .inl hm
  · subst hf
    rcases List.mem_append.1 hm with hm | hm
    · exact .inr ⟨g, hg, hm⟩
    · simp at hm; exact .inl hm
theorem bey_plain (k : Kn) : beyB (plainB k) = beyB k := by
  obtain ⟨f1, f2⟩ := grp_facts (F := beyB k) (bey_trunc k) (namesB k) [] (fun f hf => by simp at hf)
  funext id j
  have hr : rawF (plainB k).l id j = if j < 8 then beyB k id j else rawF (plainB k).l id j := by
    by_cases hj : j < 8
    · rw [if_pos hj]
      have h0 := bey_nonneg k id j
      have hle : rawF (plainB k).l id j ≤ beyB k id j := by
        rcases raw_is (plainB k).l id j with h | ⟨f, hf, hm, e⟩
        · omega
        · rw [e, (f1 f hf).2 id hm]; omega
      cases ez : eqV (beyB k id) zeroV with
      | true =>
        have := eqV_iff.1 ez j hj
        have h1 := raw_nonneg (plainB k).l id j
        unfold zeroV at this
        omega
      | false =>
        have hn : id ∈ namesB k := by
          by_cases hn : id ∈ namesB k
          · exact hn
          · rw [bey_none hn, eqV_refl] at ez; cases ez
        obtain ⟨f, hf, hm⟩ := f2 id (.inr ⟨hn, ez⟩)
        have := raw_ge (l := (plainB k).l) hf hm j
        rw [(f1 f hf).2 id hm] at this
        omega
    · rw [if_neg hj]
  show (if j < 8 then (if rawF (plainB k).l id j ≤ (plainB k).star j then 0 else rawF (plainB k).l id j) else 0) = beyB k id j
  by_cases hj : j < 8
  · rw [if_pos hj] at hr ⊢
    rw [hr]
    show (if beyB k id j ≤ k.star j then 0 else beyB k id j) = beyB k id j
    unfold beyB
    rw [if_pos hj]
    split
    · split <;> rfl
    · rfl
  · rw [if_neg hj]; exact (bey_trunc k id j (by omega)).symm

/-- What is known beyond Star makes what is plain. -/
theorem plain_l {k k' : Kn} (h : beyB k = beyB k') : (plainB k).l = (plainB k').l := by
  show (namesB k).foldl (grpStep (beyB k)) [] = (namesB k').foldl (grpStep (beyB k')) []
  rw [grp_filter, grp_filter (beyB k'), ← h]
  congr 1
  refine rise_ext (rise_filter (rise_all _)) (rise_filter (rise_all _)) fun x => ?_
  rw [List.mem_filter, List.mem_filter]
  constructor
  · rintro ⟨_, h2⟩
    refine ⟨?_, h2⟩
    by_cases hn : x ∈ namesB k'
    · exact hn
    · rw [h, bey_none hn, eqV_refl] at h2; cases h2
  · rintro ⟨_, h2⟩
    refine ⟨?_, h2⟩
    by_cases hn : x ∈ namesB k
    · exact hn
    · rw [bey_none hn, eqV_refl] at h2; cases h2
theorem same_of {k k' : Kn} (hs : eqV k.star k'.star = true) (h : ∀ id j, j < 8 → beyB k id j = beyB k' id j) : sameK k k' = true := by
  have : beyB k = beyB k' := by
    funext id j
    by_cases hj : j < 8
    · exact h id j hj
    · rw [bey_trunc k id j (by omega), bey_trunc k' id j (by omega)]
  exact alike_of hs (plain_l this)
theorem plain_plain (k : Kn) : alikeK (plainB (plainB k)) (plainB k) = true := alike_of (eqV_refl _) (plain_l (bey_plain k))
theorem same_plain (k : Kn) : sameK k (plainB k) = true := same_of (eqV_refl _) fun id j _ => by rw [bey_plain]

/-! ### What is known -/
theorem has_bey (k : Kn) (id : ByteArray) (r c : Int) : hasK k id r c = (hasV k.star r c || hasV (beyB k id) r c) := by
  unfold hasK
  rw [Bool.eq_iff_iff]
  simp only [Bool.or_eq_true, List.any_eq_true, hasFr, Bool.and_eq_true, among_iff]
  unfold hasV cntV
  simp only [Bool.and_eq_true, decide_eq_true_eq]
  by_cases hr : 1 ≤ r ∧ r ≤ 8
  · simp only [if_pos hr]
    have hj : (r - 1).toNat < 8 := by omega
    generalize (r - 1).toNat = j at *
    have hb : beyB k id j = if rawF k.l id j ≤ k.star j then 0 else rawF k.l id j := by unfold beyB; rw [if_pos hj]
    rw [hb]
    constructor
    · rintro (h | ⟨f, hf, hm, h1, h2⟩)
      · exact .inl h
      · have := raw_ge hf hm j
        by_cases hc : c ≤ k.star j
        · exact .inl ⟨h1, hc⟩
        · right
          rw [if_neg (by omega)]
          exact ⟨h1, by omega⟩
    · rintro (h | ⟨h1, h2⟩)
      · exact .inl h
      · right
        split at h2
        · omega
        · rcases raw_is k.l id j with h | ⟨f, hf, hm, e⟩
          · omega
          · exact ⟨f, hf, hm, h1, by omega⟩
  · simp only [if_neg hr]
    constructor
    · rintro (h | ⟨f, _, _, h1, h2⟩)
      · exact .inl h
      · omega
    · rintro (h | h)
      · exact .inl h
      · omega
theorem has_plain (k : Kn) (id : ByteArray) (r c : Int) : hasK (plainB k) id r c = hasK k id r c := by
  rw [has_bey, has_bey k, bey_plain]; rfl
theorem has_join (a b : Kn) (id : ByteArray) (r c : Int) : hasK (joinK a b) id r c = (hasK a id r c || hasK b id r c) := by
  unfold hasK joinK
  rw [has_max, List.any_append]
  cases hasV a.star r c <;> cases hasV b.star r c <;> simp
theorem join_comm (a b : Kn) : sameK (plainB (joinK a b)) (plainB (joinK b a)) = true := by
  refine same_of (eqV_iff.2 fun j _ => max_comm8 _ _ j) fun id j hj => ?_
  rw [bey_plain, bey_plain]
  unfold beyB joinK
  simp only [if_pos hj, raw_append, max_comm8 a.star b.star, max_comm8 (rawF a.l id) (rawF b.l id)]
theorem max_more (A B : Nat → Int) (j : Nat) : maxV (maxV A B) B j = maxV A B j := by
  unfold maxV
  repeat' split
  all_goals omega
theorem join_more (a b : Kn) : sameK (plainB (joinK (plainB (joinK a b)) b)) (plainB (joinK a b)) = true := by
  refine same_of (eqV_iff.2 fun j _ => ?_) fun id j hj => ?_
  · show maxV (maxV a.star b.star) b.star j = maxV a.star b.star j
    unfold maxV; repeat' split
    all_goals omega
  · rw [bey_plain, bey_plain]
    have h1 : beyB (plainB (joinK a b)) id j = beyB (joinK a b) id j := by rw [bey_plain]
    have hs : maxV (maxV a.star b.star) b.star j = maxV a.star b.star j := max_more a.star b.star j
    have e1 : rawF (plainB (joinK a b)).l id j = beyB (joinK a b) id j := by
      obtain ⟨f1, f2⟩ := grp_facts (F := beyB (joinK a b)) (bey_trunc _) (namesB (joinK a b)) [] (fun f hf => by simp at hf)
      have h0 := bey_nonneg (joinK a b) id j
      have hn := raw_nonneg (plainB (joinK a b)).l id j
      have hle : rawF (plainB (joinK a b)).l id j ≤ beyB (joinK a b) id j := by
        rcases raw_is (plainB (joinK a b)).l id j with h | ⟨f, hf, hm, e⟩
        · omega
        · rw [e, (f1 f hf).2 id hm]; omega
      unfold beyB at h1
      rw [if_pos hj, if_pos hj] at h1
      have h2 : beyB (joinK a b) id j = if rawF (joinK a b).l id j ≤ (joinK a b).star j then 0 else rawF (joinK a b).l id j := by unfold beyB; rw [if_pos hj]
      rw [← h2] at h1
      split at h1
      · omega
      · exact h1
    have h2 : beyB (joinK a b) id j = if rawF (joinK a b).l id j ≤ (joinK a b).star j then 0 else rawF (joinK a b).l id j := by unfold beyB; rw [if_pos hj]
    have h3 : rawF (joinK a b).l id j = maxV (rawF a.l id) (rawF b.l id) j := raw_append _ _ _ _
    show (if j < 8 then (if rawF ((plainB (joinK a b)).l ++ b.l) id j ≤ maxV (maxV a.star b.star) b.star j then 0 else rawF ((plainB (joinK a b)).l ++ b.l) id j) else 0) = _
    have hb := raw_nonneg b.l id j
    have hst : (joinK a b).star j = maxV a.star b.star j := rfl
    rw [if_pos hj, hs, raw_append]
    unfold maxV at h3 ⊢
    rw [e1, h2, hst]
    unfold maxV
    generalize rawF b.l id j = y at *
    generalize rawF a.l id j = x at *
    rw [h3]
    repeat' split
    all_goals omega

/-! ### One more -/
theorem has_with (k : Kn) (id other : ByteArray) (r c yr yc : Int) : hasK (withK k id r c) other yr yc = (hasK k other yr yc || ((id.toList == other.toList) && hasV (withV zeroV r c) yr yc)) := by
  unfold hasK withK
  rw [List.any_append]
  simp [hasFr, amongB, Bool.or_assoc]
theorem with_right (k : Kn) (id : ByteArray) {r c : Int} (h1 : 1 ≤ r) (h2 : r ≤ 8) (h3 : 1 ≤ c) : hasK (plainB (withK k id r c)) id r c = true := by
  rw [has_plain, has_with, with_has]
  simp [h1, h2, h3]
theorem with_was (k : Kn) (id other : ByteArray) (r c yr yc : Int) (h : hasK k other yr yc = true) : hasK (plainB (withK k id r c)) other yr yc = true := by
  rw [has_plain, has_with, h]; rfl
theorem own_was (k : Kn) (id other : ByteArray) (r c yr yc : Int) (h : hasK (plainB (withK k id r c)) other yr yc = true) : hasK (plainB (ownK k id r c)) other yr yc = true := by
  unfold ownK
  split
  · exact h
  · rename_i hc
    rw [has_plain, has_with, Bool.or_eq_true] at h
    rw [has_plain]
    have hc1 : 1 ≤ r ∧ r ≤ 8 ∧ 1 ≤ c ∧ k.star (r - 1).toNat = c - 1 := by omega
    rcases h with h | h
    · unfold hasK at *
      rw [Bool.or_eq_true] at *
      rcases h with h | h
      · exact .inl (in_has (in_with _ _ _) h)
      · exact .inr h
    · rw [Bool.and_eq_true] at h
      unfold hasK
      rw [Bool.or_eq_true]
      left
      have h2 := h.2
      show hasV (withV k.star r c) yr yc = true
      unfold hasV cntV at *
      simp only [Bool.and_eq_true, decide_eq_true_eq] at *
      refine ⟨h2.1, ?_⟩
      have h3 := h2.2
      split at h3
      · rename_i hr
        rw [if_pos hr]
        unfold withV zeroV at *
        by_cases e : (yr - 1).toNat = (r - 1).toNat
        · rw [if_pos (by omega)] at h3
          have : (yr - 1).toNat = (r - 1).toNat ∧ 1 ≤ r ∧ r ≤ 8 ∧ k.star (yr - 1).toNat < c := by
            refine ⟨e, by omega, by omega, ?_⟩
            rw [e]; omega
          rw [if_pos this]; exact h3
        · rw [if_neg (by omega)] at h3; omega
      · omega

end Go.Proofs.Ythhbjgecdhogoaa
