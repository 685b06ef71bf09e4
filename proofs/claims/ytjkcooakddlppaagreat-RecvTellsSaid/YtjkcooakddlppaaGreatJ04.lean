/- Joined: VecM, ItemB, KnowM, RefList3. -/
import Derived.Test.YtjkcooakddlppaaGreatJ01
import Derived.Test.YtjkcooakddlppaaGreatJ03
/- Counts of replicas: eight whole numbers; plain mathematics, and how they lie. No walk. -/
namespace Go.Proofs.YtjkcooakddlppaaGreat
set_option linter.unusedVariables false
set_option linter.unusedSimpArgs false
set_option maxRecDepth 100000
open Go.RowKit
abbrev arr8 (A : Nat → Int) : Array Value := #[.int .i64 (A 0), .int .i64 (A 1), .int .i64 (A 2), .int .i64 (A 3), .int .i64 (A 4), .int .i64 (A 5), .int .i64 (A 6), .int .i64 (A 7)]
abbrev vecV (A : Nat → Int) : Value := .agg #[.int .i64 (A 0), .int .i64 (A 1), .int .i64 (A 2), .int .i64 (A 3), .int .i64 (A 4), .int .i64 (A 5), .int .i64 (A 6), .int .i64 (A 7)]
theorem arr_get (A : Nat → Int) {k : Nat} (h : k < 8) : (arr8 A)[k]? = some (.int .i64 (A k)) := by
  match k, h with
  | 0, _ | 1, _ | 2, _ | 3, _ | 4, _ | 5, _ | 6, _ | 7, _ => rfl
theorem arr_set (A : Nat → Int) {k : Nat} (h : k < 8) (v : Int) : (arr8 A).setIfInBounds k (.int .i64 v) = arr8 (fun j => if j = k then v else A j) := by
  match k, h with
  | 0, _ | 1, _ | 2, _ | 3, _ | 4, _ | 5, _ | 6, _ | 7, _ => simp [arr8]
theorem arr_congr {A B : Nat → Int} (h : ∀ j, j < 8 → A j = B j) : arr8 A = arr8 B := by
  unfold arr8
  rw [h 0 (by omega), h 1 (by omega), h 2 (by omega), h 3 (by omega), h 4 (by omega), h 5 (by omega), h 6 (by omega), h 7 (by omega)]
theorem vec_congr {A B : Nat → Int} (h : ∀ j, j < 8 → A j = B j) : vecV A = vecV B := congrArg Value.agg (arr_congr h)
def maxV (A B : Nat → Int) (k : Nat) : Int := if A k < B k then B k else A k
def mayV (A : Nat → Int) : Bool := (List.range 8).all fun k => (decide (0 ≤ A k) && decide (A k ≤ 1000))
def cntV (A : Nat → Int) (r : Int) : Int := if 1 ≤ r ∧ r ≤ 8 then A (r - 1).toNat else 0
def hasV (A : Nat → Int) (r c : Int) : Bool := decide (1 ≤ c) && decide (c ≤ cntV A r)
def withV (A : Nat → Int) (r c : Int) (k : Nat) : Int := if k = (r - 1).toNat ∧ 1 ≤ r ∧ r ≤ 8 ∧ A k < c then c else A k
theorem mayV_iff {A : Nat → Int} : mayV A = true ↔ ∀ k, k < 8 → 0 ≤ A k ∧ A k ≤ 1000 := by simp [mayV, List.all_eq_true]
theorem mayV_false {A : Nat → Int} {k : Nat} (hk : k < 8) (h : A k < 0 ∨ 1000 < A k) : mayV A = false := by
  cases e : mayV A with
  | false => rfl
  | true => have := mayV_iff.1 e k hk; omega
/-! ### What follows -/
theorem with_has (A : Nat → Int) (r c : Int) : hasV (withV A r c) r c = (decide (1 ≤ r) && (decide (r ≤ 8) && decide (1 ≤ c))) := by
  unfold hasV cntV
  rw [Bool.eq_iff_iff]
  simp only [Bool.and_eq_true, decide_eq_true_eq]
  constructor
  · rintro ⟨h1, h2⟩
    split at h2
    · rename_i hr; exact ⟨hr.1, hr.2, h1⟩
    · omega
  · rintro ⟨h1, h2, h3⟩
    refine ⟨h3, ?_⟩
    rw [if_pos ⟨h1, h2⟩]
    unfold withV
    split
    · omega
    · rename_i hn; omega
end Go.Proofs.YtjkcooakddlppaaGreat
/- Walks of the document's answer for names and versions, and of the code's checks of numbers. -/
namespace Go.Proofs.YtjkcooakddlppaaGreat
set_option linter.unusedVariables false
set_option linter.unusedSimpArgs false
set_option maxRecDepth 100000
open Go.RowKit
set_option maxHeartbeats 400000 in
theorem refName_calls (s : ByteArray) (w : World) (hs : s.size ≤ maxLen) :
    Calls Tryz.prog 83 #[.string s] w fun e w' => e = .returned (.bool (nameB s)) ∧ w = w' := by
  have H := Lib.hid (letters_calls s 1 w hs)
  have e : nameB s = (txtB s && decide ((1 : Int) ≤ s.size)) := by
    unfold nameB; rw [Bool.and_comm]; congr 1; rw [decide_eq_decide]; omega
  rw [e]
  clear e
  generalize (txtB s && decide ((1 : Int) ≤ s.size)) = r at *
  go_enter Tryz.func83, Tryz.ntmps83
  go_wp2_with (go_at_call 129; refine (H.out).mono ?_; rintro e w' ⟨rfl, rfl⟩)
  go_ret
  exact ⟨rfl, rfl⟩
def inB (n a b : Int) : Bool := decide (a ≤ n) && decide (n ≤ b)
def verB (r c : Int) : Bool := inB r 1 8 && inB c 1 1000
set_option maxHeartbeats 400000 in
theorem within_calls (n a b : Int) (w : World) :
    Calls Tryz.prog 134 #[.int .i64 n, .int .i64 a, .int .i64 b] w fun e w' => e = .returned (.bool (inB n a b)) ∧ w = w' := by
  unfold inB
  by_cases h : a ≤ n <;> by_cases h' : n ≤ b <;>
  ( go_enter Tryz.func134, Tryz.ntmps134
    go_wp2
    go_ret
    exact ⟨ret_bool (by simp [h, h']), rfl⟩ )
set_option maxHeartbeats 400000 in
theorem version_calls (r c : Int) (w : World) :
    Calls Tryz.prog 133 #[.agg #[.int .i64 r, .int .i64 c]] w fun e w' => e = .returned (.bool (verB r c)) ∧ Below w.heap.size w w' := by
  have H := fun n a b w => Lib.hid (within_calls n a b w)
  unfold verB
  cases h1 : inB r 1 8
  · go_enter Tryz.func133, Tryz.ntmps133
    go_wp2_with (go_at_call 134; refine ((H _ _ _ _).out).mono ?_; rintro e w' ⟨rfl, rfl⟩)
    go_ret
    exact ⟨rfl, (Below.refl _ _).alloc (Nat.le_refl _) _⟩
  · go_enter Tryz.func133, Tryz.ntmps133
    go_wp2_with (go_at_call 134; refine ((H _ _ _ _).out).mono ?_; rintro e w' ⟨rfl, rfl⟩)
    go_ret
    exact ⟨rfl, (Below.refl _ _).alloc (Nat.le_refl _) _⟩
set_option maxHeartbeats 400000 in
theorem refVer_calls (r c : Int) (w : World) :
    Calls Tryz.prog 54 #[.agg #[.int .i64 r, .int .i64 c]] w fun e w' => e = .returned (.bool (verB r c)) ∧ Below w.heap.size w w' := by
  unfold verB inB
  by_cases h1 : 1 ≤ r
  · by_cases h2 : r ≤ 8
    · by_cases h3 : 1 ≤ c
      · by_cases h4 : c ≤ 1000
        all_goals
          go_enter Tryz.func54, Tryz.ntmps54
          go_wp2
          go_ret
          exact ⟨ret_bool (by simp [h1, h2, h3, h4]), (Below.refl _ _).alloc (Nat.le_refl _) _⟩
      · go_enter Tryz.func54, Tryz.ntmps54
        go_wp2
        go_ret
        exact ⟨ret_bool (by simp [h1, h2, h3]; omega), (Below.refl _ _).alloc (Nat.le_refl _) _⟩
    · go_enter Tryz.func54, Tryz.ntmps54
      go_wp2
      go_ret
      exact ⟨ret_bool (by simp [h1]; omega), (Below.refl _ _).alloc (Nat.le_refl _) _⟩
  · go_enter Tryz.func54, Tryz.ntmps54
    go_wp2
    go_ret
    exact ⟨ret_bool (by simp; omega), (Below.refl _ _).alloc (Nat.le_refl _) _⟩
end Go.Proofs.YtjkcooakddlppaaGreat
/- What is known: plain mathematics. No walk. -/
namespace Go.Proofs.YtjkcooakddlppaaGreat
set_option linter.unusedVariables false
set_option linter.unusedSimpArgs false
set_option maxRecDepth 100000
open Go.RowKit
structure Fr where
  ids : List ByteArray
  v : Nat → Int
structure Kn where
  star : Nat → Int
  l : List Fr
def eqV (A B : Nat → Int) : Bool := (List.range 8).all fun k => A k == B k
theorem eqV_iff {A B : Nat → Int} : eqV A B = true ↔ ∀ k, k < 8 → A k = B k := by simp [eqV, List.all_eq_true]
theorem eqV_refl (A : Nat → Int) : eqV A A = true := eqV_iff.2 fun _ _ => rfl
def zeroV : Nat → Int := fun _ => 0
def Trunc8 (A : Nat → Int) : Prop := ∀ j, 8 ≤ j → A j = 0
theorem eqV_eq {A B : Nat → Int} (hA : Trunc8 A) (hB : Trunc8 B) (h : eqV A B = true) : A = B := by
  funext j
  by_cases hj : j < 8
  · exact eqV_iff.1 h j hj
  · rw [hA j (by omega), hB j (by omega)]
/-! ### Texts among others; one put among them -/
def amongB (l : List ByteArray) (s : ByteArray) : Bool := l.any fun x => x.toList == s.toList
theorem among_iff {l : List ByteArray} {s : ByteArray} : amongB l s = true ↔ s ∈ l := by
  unfold amongB
  rw [List.any_eq_true]
  constructor
  · rintro ⟨x, hx, e⟩; rw [tl_eq.1 e] at hx; exact hx
  · intro h; exact ⟨s, h, tl_eq.2 rfl⟩
def insStep (s : ByteArray) (st : List ByteArray × Bool) (a : ByteArray) : List ByteArray × Bool :=
  let p := !st.2 && leB s a
  let o := if p = true then st.1 ++ [s] else st.1
  (if (a.toList == s.toList) = true then o else o ++ [a], st.2 || p)
def insF (s : ByteArray) (l : List ByteArray) : List ByteArray × Bool := l.foldl (insStep s) ([], false)
def insB (l : List ByteArray) (s : ByteArray) : List ByteArray := if (insF s l).2 = true then (insF s l).1 else (insF s l).1 ++ [s]
def insR (s : ByteArray) : List ByteArray → List ByteArray
  | [] => [s]
  | a :: l => if leB s a = true then s :: (a :: l).filter (fun x => !(x.toList == s.toList)) else a :: insR s l
theorem ins_done (s : ByteArray) (l : List ByteArray) : ∀ o : List ByteArray, l.foldl (insStep s) (o, true) = (o ++ l.filter (fun x => !(x.toList == s.toList)), true) := by
  induction l with
  | nil => intro o; simp
  | cons a l ih =>
    intro o
    rw [List.foldl_cons]
    have e : insStep s (o, true) a = (if (a.toList == s.toList) = true then o else o ++ [a], true) := by simp [insStep]
    rw [e, ih]
    cases h : (a.toList == s.toList) <;> simp [h]
theorem ins_go (s : ByteArray) (l : List ByteArray) : ∀ o : List ByteArray, (if (l.foldl (insStep s) (o, false)).2 = true then (l.foldl (insStep s) (o, false)).1 else (l.foldl (insStep s) (o, false)).1 ++ [s]) = o ++ insR s l := by
  induction l with
  | nil => intro o; simp [insR]
  | cons a l ih =>
    intro o
    rw [List.foldl_cons, insR]
    cases h : leB s a with
    | true =>
      have e : insStep s (o, false) a = (if (a.toList == s.toList) = true then o ++ [s] else o ++ [s] ++ [a], true) := by simp [insStep, h]
      rw [e, ins_done]
      cases h' : (a.toList == s.toList) <;> simp [h']
    | false =>
      have hn : (a.toList == s.toList) = false := tl_ne.2 (ls_ne (le_not h))
      have e : insStep s (o, false) a = (o ++ [a], false) := by simp [insStep, h, hn]
      rw [e, ih]
      simp
theorem ins_eq (l : List ByteArray) (s : ByteArray) : insB l s = insR s l := by
  exact (ins_go s l []).trans (List.nil_append _)
theorem mem_ins {l : List ByteArray} {s x : ByteArray} : x ∈ insB l s ↔ x = s ∨ x ∈ l := by
  rw [ins_eq]
  induction l with
  | nil => simp [insR]
  | cons a l ih =>
    rw [insR]
    cases h : leB s a with
    | true =>
      simp only [if_true, List.mem_cons, List.mem_filter, Bool.not_eq_true', tl_ne]
      constructor
      · rintro (h | ⟨h, _⟩)
        · exact .inl h
        · exact .inr h
      · rintro (h | h)
        · exact .inl h
        · by_cases e : x = s
          · exact .inl e
          · exact .inr ⟨h, e⟩
    | false =>
      simp only [Bool.false_eq_true, if_false, List.mem_cons, ih]
      constructor
      · rintro (h | h | h)
        · exact .inr (.inl h)
        · exact .inl h
        · exact .inr (.inr h)
      · rintro (h | h | h)
        · exact .inr (.inl h)
        · exact .inl h
        · exact .inr (.inr h)
theorem rise_ins {l : List ByteArray} {s : ByteArray} (h : Rise l) : Rise (insB l s) := by
  rw [ins_eq]
  induction l with
  | nil => simp [insR, Rise]
  | cons a l ih =>
    rw [rise_cons] at h
    rw [insR]
    cases hs : leB s a with
    | true =>
      rw [if_pos rfl, rise_cons]
      refine ⟨fun x hx => ?_, rise_filter (rise_cons.2 h)⟩
      rw [List.mem_filter] at hx
      obtain ⟨hx, hne⟩ := hx
      rw [Bool.not_eq_true', tl_ne] at hne
      have hax : x = a ∨ lsB a x = true := by
        rcases List.mem_cons.1 hx with e | hx
        · exact .inl e
        · exact .inr (h.1 x hx)
      rcases le_iff.1 hs with h1 | h1
      · rcases hax with e | h2
        · subst e; exact h1
        · exact ls_trans h1 h2
      · subst h1
        rcases hax with e | h2
        · exact absurd e hne
        · exact h2
    | false =>
      rw [if_neg (by simp), rise_cons]
      refine ⟨fun x hx => ?_, ih h.2⟩
      rw [← ins_eq, mem_ins] at hx
      rcases hx with e | hx
      · subst e; exact le_not hs
      · exact h.1 x hx
theorem len_ins (l : List ByteArray) (s : ByteArray) : (insB l s).length ≤ l.length + 1 := by
  rw [ins_eq]
  induction l with
  | nil => simp [insR]
  | cons a l ih =>
    rw [insR]
    split
    · have := List.length_filter_le (fun x : ByteArray => !(x.toList == s.toList)) (a :: l)
      simp only [List.length_cons] at *; omega
    · simp only [List.length_cons]; omega
def insAll (l : List ByteArray) : List ByteArray := l.foldl insB []
def flatI (l : List Fr) : List ByteArray := l.flatMap (·.ids)
def namesB (k : Kn) : List ByteArray := insAll (flatI k.l)
theorem insAll_snoc (l : List ByteArray) (s : ByteArray) : insAll (l ++ [s]) = insB (insAll l) s := by simp [insAll]
theorem foldl_ins (l : List ByteArray) : ∀ o : List ByteArray, Rise o → Rise (l.foldl insB o) ∧ (∀ x, x ∈ l.foldl insB o ↔ x ∈ o ∨ x ∈ l) ∧ (l.foldl insB o).length ≤ o.length + l.length := by
  induction l with
  | nil => intro o h; exact ⟨h, fun x => by simp, by simp⟩
  | cons a l ih =>
    intro o h
    obtain ⟨h1, h2, h3⟩ := ih (insB o a) (rise_ins h)
    refine ⟨h1, fun x => ?_, ?_⟩
    · rw [List.foldl_cons, h2, mem_ins, List.mem_cons]
      constructor
      · rintro ((h | h) | h)
        · exact .inr (.inl h)
        · exact .inl h
        · exact .inr (.inr h)
      · rintro (h | h | h)
        · exact .inl (.inr h)
        · exact .inl (.inl h)
        · exact .inr h
    · have := len_ins o a
      simp only [List.foldl_cons, List.length_cons] at *; omega
theorem rise_all (l : List ByteArray) : Rise (insAll l) := (foldl_ins l [] (by simp [Rise])).1
theorem mem_all {l : List ByteArray} {x : ByteArray} : x ∈ insAll l ↔ x ∈ l := by
  have := (foldl_ins l [] (by simp [Rise])).2.1 x
  unfold insAll
  simpa using this
theorem len_all (l : List ByteArray) : (insAll l).length ≤ l.length := by
  have := (foldl_ins l [] (by simp [Rise])).2.2
  unfold insAll
  simpa using this
theorem mem_names {k : Kn} {x : ByteArray} : x ∈ namesB k ↔ ∃ f ∈ k.l, x ∈ f.ids := by
  unfold namesB flatI
  rw [mem_all, List.mem_flatMap]
/-! ### What the pieces know -/
def rawStep (id : ByteArray) (A : Nat → Int) (f : Fr) : Nat → Int := if amongB f.ids id = true then maxV A f.v else A
def rawF (l : List Fr) (id : ByteArray) : Nat → Int := l.foldl (rawStep id) zeroV
def beyB (k : Kn) (id : ByteArray) (j : Nat) : Int := if j < 8 then (if rawF k.l id j ≤ k.star j then 0 else rawF k.l id j) else 0
theorem bey_trunc (k : Kn) (id : ByteArray) : Trunc8 (beyB k id) := fun j hj => by unfold beyB; rw [if_neg (by omega)]
theorem raw_spec' (id : ByteArray) (l : List Fr) (j : Nat) : ∀ A : Nat → Int, A j ≤ l.foldl (rawStep id) A j ∧ (∀ f ∈ l, id ∈ f.ids → f.v j ≤ l.foldl (rawStep id) A j) ∧ (l.foldl (rawStep id) A j = A j ∨ ∃ f ∈ l, id ∈ f.ids ∧ l.foldl (rawStep id) A j = f.v j) := by
  induction l with
  | nil => intro A; simp
  | cons g l ih =>
    intro A
    rw [List.foldl_cons]
    obtain ⟨h1, h2, h3⟩ := ih (rawStep id A g)
    have hs : A j ≤ rawStep id A g j ∧ (id ∈ g.ids → g.v j ≤ rawStep id A g j) ∧ (rawStep id A g j = A j ∨ id ∈ g.ids ∧ rawStep id A g j = g.v j) := by
      unfold rawStep
      by_cases h : amongB g.ids id = true
      · rw [if_pos h]
        have hm := among_iff.1 h
        unfold maxV
        split
        · exact ⟨by omega, fun _ => by omega, .inr ⟨hm, rfl⟩⟩
        · exact ⟨by omega, fun _ => by omega, .inl rfl⟩
      · rw [if_neg h]
        exact ⟨by omega, fun hm => absurd (among_iff.2 hm) h, .inl rfl⟩
    refine ⟨by omega, fun f hf hm => ?_, ?_⟩
    · rcases List.mem_cons.1 hf with e | hf
      · subst e; have := hs.2.1 hm; omega
      · exact h2 f hf hm
    · rcases h3 with h3 | ⟨f, hf, hm, e⟩
      · rcases hs.2.2 with h | ⟨hm, h⟩
        · exact .inl (by rw [h3, h])
        · exact .inr ⟨g, by simp, hm, by rw [h3, h]⟩
      · exact .inr ⟨f, by simp [hf], hm, e⟩
theorem raw_nonneg (l : List Fr) (id : ByteArray) (j : Nat) : 0 ≤ rawF l id j := (raw_spec' id l j zeroV).1
theorem raw_ge {l : List Fr} {id : ByteArray} {f : Fr} (hf : f ∈ l) (hm : id ∈ f.ids) (j : Nat) : f.v j ≤ rawF l id j := (raw_spec' id l j zeroV).2.1 f hf hm
theorem raw_is (l : List Fr) (id : ByteArray) (j : Nat) : rawF l id j = 0 ∨ ∃ f ∈ l, id ∈ f.ids ∧ rawF l id j = f.v j := (raw_spec' id l j zeroV).2.2
theorem bey_nonneg (k : Kn) (id : ByteArray) (j : Nat) : 0 ≤ beyB k id j := by
  unfold beyB
  have := raw_nonneg k.l id j
  split
  · split <;> omega
  · omega
theorem raw_none {l : List Fr} {id : ByteArray} (h : ∀ f ∈ l, id ∉ f.ids) (j : Nat) : rawF l id j = 0 := by
  rcases raw_is l id j with h' | ⟨f, hf, hm, _⟩
  · exact h'
  · exact absurd hm (h f hf)
theorem bey_none {k : Kn} {id : ByteArray} (h : id ∉ namesB k) : beyB k id = zeroV := by
  have h0 := fun j => raw_none (l := k.l) (id := id) (fun f hf hm => h (mem_names.2 ⟨f, hf, hm⟩)) j
  funext j
  unfold beyB zeroV
  rw [h0 j]
  split
  · split <;> rfl
  · rfl
/-! ### Made plain -/
def putF (v : Nat → Int) (id : ByteArray) : List Fr → List Fr
  | [] => [⟨[id], v⟩]
  | f :: l => if eqV f.v v = true then ⟨f.ids ++ [id], f.v⟩ :: l else f :: putF v id l
def grpStep (F : ByteArray → Nat → Int) (o : List Fr) (id : ByteArray) : List Fr := if eqV (F id) zeroV = true then o else putF (F id) id o
def grpF (F : ByteArray → Nat → Int) (ids : List ByteArray) : List Fr := ids.foldl (grpStep F) []
def plainB (k : Kn) : Kn := ⟨k.star, grpF (beyB k) (namesB k)⟩
def withK (k : Kn) (id : ByteArray) (r c : Int) : Kn := ⟨k.star, k.l ++ [⟨[id], withV zeroV r c⟩]⟩
def hasFr (id : ByteArray) (r c : Int) (f : Fr) : Bool := amongB f.ids id && hasV f.v r c
def hasK (k : Kn) (id : ByteArray) (r c : Int) : Bool := hasV k.star r c || k.l.any (hasFr id r c)
def eqIds : List ByteArray → List ByteArray → Bool
  | [], [] => true
  | a :: l, b :: m => (a.toList == b.toList) && eqIds l m
  | _, _ => false
def eqFr (a b : Fr) : Bool := eqV a.v b.v && eqIds a.ids b.ids
def eqFrs : List Fr → List Fr → Bool
  | [], [] => true
  | a :: l, b :: m => eqFr a b && eqFrs l m
  | _, _ => false
def alikeK (a b : Kn) : Bool := eqV a.star b.star && eqFrs a.l b.l
theorem eqIds_refl : ∀ l : List ByteArray, eqIds l l = true
  | [] => rfl
  | a :: l => by simp [eqIds, eqIds_refl l]
theorem eqFrs_refl : ∀ l : List Fr, eqFrs l l = true
  | [] => rfl
  | a :: l => by simp [eqFrs, eqFr, eqV_refl, eqIds_refl, eqFrs_refl l]
theorem alike_of {a b : Kn} (hs : eqV a.star b.star = true) (hl : a.l = b.l) : alikeK a b = true := by
  unfold alikeK; rw [hs, hl, eqFrs_refl]; rfl
theorem alike_refl (a : Kn) : alikeK a a = true := alike_of (eqV_refl _) rfl
theorem grp_filter (F : ByteArray → Nat → Int) (ids : List ByteArray) : ∀ o : List Fr, ids.foldl (grpStep F) o = (ids.filter fun x => !eqV (F x) zeroV).foldl (grpStep F) o := by
  induction ids with
  | nil => intro o; rfl
  | cons a l ih =>
    intro o
    rw [List.foldl_cons, ih]
    cases h : eqV (F a) zeroV with
    | true => simp [h, grpStep]
    | false => simp [h]
theorem mem_putF {v : Nat → Int} {id : ByteArray} : ∀ {o : List Fr} {f : Fr}, f ∈ putF v id o → f ∈ o ∨ f = ⟨[id], v⟩ ∨ ∃ g ∈ o, eqV g.v v = true ∧ f = ⟨g.ids ++ [id], g.v⟩
  | [], f, h => by simp only [putF, List.mem_singleton] at h; exact .inr (.inl h)
  | g :: o, f, h => by
    rw [putF] at h
    by_cases e : eqV g.v v = true
    · rw [if_pos e] at h
      rcases List.mem_cons.1 h with h | h
      · exact .inr (.inr ⟨g, by simp, e, h⟩)
      · exact .inl (by simp [h])
    · rw [if_neg e] at h
      rcases List.mem_cons.1 h with h | h
      · exact .inl (by simp [h])
      · rcases mem_putF h with h | h | ⟨g', hg, e', h⟩
        · exact .inl (by simp [h])
        · exact .inr (.inl h)
        · exact .inr (.inr ⟨g', by simp [hg], e', h⟩)
theorem put_has {v : Nat → Int} {id : ByteArray} : ∀ {o : List Fr}, ∃ f ∈ putF v id o, id ∈ f.ids
  | [] => ⟨⟨[id], v⟩, by simp [putF], by simp⟩
  | g :: o => by
    rw [putF]
    by_cases e : eqV g.v v = true
    · rw [if_pos e]; exact ⟨⟨g.ids ++ [id], g.v⟩, by simp, by simp⟩
    · rw [if_neg e]
      obtain ⟨f, hf, hm⟩ := put_has (v := v) (id := id) (o := o)
      exact ⟨f, by simp [hf], hm⟩
theorem put_keeps {v : Nat → Int} {id x : ByteArray} : ∀ {o : List Fr}, (∃ f ∈ o, x ∈ f.ids) → ∃ f ∈ putF v id o, x ∈ f.ids
  | [], ⟨f, hf, _⟩ => by simp at hf
  | g :: o, ⟨f, hf, hm⟩ => by
    rw [putF]
    by_cases e : eqV g.v v = true
    · rw [if_pos e]
      rcases List.mem_cons.1 hf with h | h
      · subst h; exact ⟨⟨f.ids ++ [id], f.v⟩, by simp, by simp [hm]⟩
      · exact ⟨f, by simp [h], hm⟩
    · rw [if_neg e]
      rcases List.mem_cons.1 hf with h | h
      · subst h; exact ⟨f, by simp, hm⟩
      · obtain ⟨f', hf', hm'⟩ := put_keeps (v := v) (id := id) (o := o) ⟨f, h, hm⟩
        exact ⟨f', by simp [hf'], hm'⟩
theorem grp_facts {F : ByteArray → Nat → Int} (hF : ∀ x, Trunc8 (F x)) (ids : List ByteArray) : ∀ o : List Fr, (∀ f ∈ o, Trunc8 f.v ∧ ∀ x ∈ f.ids, f.v = F x) →
    (∀ f ∈ ids.foldl (grpStep F) o, Trunc8 f.v ∧ ∀ x ∈ f.ids, f.v = F x) ∧ (∀ x, (∃ f ∈ o, x ∈ f.ids) ∨ (x ∈ ids ∧ eqV (F x) zeroV = false) → ∃ f ∈ ids.foldl (grpStep F) o, x ∈ f.ids) := by
  induction ids with
  | nil => intro o h; exact ⟨h, fun x hx => by rcases hx with hx | ⟨hx, _⟩; exact hx; simp at hx⟩
  | cons a l ih =>
    intro o h
    rw [List.foldl_cons]
    cases e : eqV (F a) zeroV with
    | true =>
      have : grpStep F o a = o := by simp [grpStep, e]
      rw [this]
      refine ⟨(ih o h).1, fun x hx => (ih o h).2 x ?_⟩
      rcases hx with hx | ⟨hx, hz⟩
      · exact .inl hx
      · rcases List.mem_cons.1 hx with h' | h'
        · subst h'; rw [e] at hz; cases hz
        · exact .inr ⟨h', hz⟩
    | false =>
      have e' : grpStep F o a = putF (F a) a o := by simp [grpStep, e]
      rw [e']
      have h1 : ∀ f ∈ putF (F a) a o, Trunc8 f.v ∧ ∀ x ∈ f.ids, f.v = F x := by
        intro f hf
        rcases mem_putF hf with hf | hf | ⟨g, hg, eg, hf⟩
        · exact h f hf
        · subst hf
          exact ⟨hF a, fun x hx => by simp at hx; rw [hx]⟩
        · subst hf
          refine ⟨(h g hg).1, fun x hx => ?_⟩
          rcases List.mem_append.1 hx with hx | hx
          · exact (h g hg).2 x hx
          · simp at hx; subst hx; exact eqV_eq (h g hg).1 (hF x) eg
      refine ⟨(ih _ h1).1, fun x hx => (ih _ h1).2 x ?_⟩
      rcases hx with hx | ⟨hx, hz⟩
      · exact .inl (put_keeps hx)
      · rcases List.mem_cons.1 hx with h' | h'
        · subst h'; exact .inl put_has
        · exact .inr ⟨h', hz⟩
theorem put_ids {v : Nat → Int} {id x : ByteArray} : ∀ {o : List Fr}, (∃ f ∈ putF v id o, x ∈ f.ids) → x = id ∨ ∃ f ∈ o, x ∈ f.ids := by
  rintro o ⟨f, hf, hm⟩
  rcases mem_putF hf with hf | hf | ⟨g, hg, _, hf⟩
  · exact .inr ⟨f, hf, hm⟩
  · subst hf; simp at hm; exact .inl hm
  · subst hf
    rcases List.mem_append.1 hm with hm | hm
    · exact .inr ⟨g, hg, hm⟩
    · simp at hm; exact .inl hm
theorem bey_plain (k : Kn) : beyB (plainB k) = beyB k := by
  obtain ⟨f1, f2⟩ := grp_facts (F := beyB k) (bey_trunc k) (namesB k) [] (fun f hf => by simp at hf)
  funext id j
  have hr : rawF (plainB k).l id j = if j < 8 then beyB k id j else rawF (plainB k).l id j := by
    by_cases hj : j < 8
    · rw [if_pos hj]
      have h0 := bey_nonneg k id j
      have hle : rawF (plainB k).l id j ≤ beyB k id j := by
        rcases raw_is (plainB k).l id j with h | ⟨f, hf, hm, e⟩
        · omega
        · rw [e, (f1 f hf).2 id hm]; omega
      cases ez : eqV (beyB k id) zeroV with
      | true =>
        have := eqV_iff.1 ez j hj
        have h1 := raw_nonneg (plainB k).l id j
        unfold zeroV at this
        omega
      | false =>
        have hn : id ∈ namesB k := by
          by_cases hn : id ∈ namesB k
          · exact hn
          · rw [bey_none hn, eqV_refl] at ez; cases ez
        obtain ⟨f, hf, hm⟩ := f2 id (.inr ⟨hn, ez⟩)
        have := raw_ge (l := (plainB k).l) hf hm j
        rw [(f1 f hf).2 id hm] at this
        omega
    · rw [if_neg hj]
  show (if j < 8 then (if rawF (plainB k).l id j ≤ (plainB k).star j then 0 else rawF (plainB k).l id j) else 0) = beyB k id j
  by_cases hj : j < 8
  · rw [if_pos hj] at hr ⊢
    rw [hr]
    show (if beyB k id j ≤ k.star j then 0 else beyB k id j) = beyB k id j
    unfold beyB
    rw [if_pos hj]
    split
    · split <;> rfl
    · rfl
  · rw [if_neg hj]; exact (bey_trunc k id j (by omega)).symm
theorem plain_l {k k' : Kn} (h : beyB k = beyB k') : (plainB k).l = (plainB k').l := by
  show (namesB k).foldl (grpStep (beyB k)) [] = (namesB k').foldl (grpStep (beyB k')) []
  rw [grp_filter, grp_filter (beyB k'), ← h]
  congr 1
  refine rise_ext (rise_filter (rise_all _)) (rise_filter (rise_all _)) fun x => ?_
  rw [List.mem_filter, List.mem_filter]
  constructor
  · rintro ⟨_, h2⟩
    refine ⟨?_, h2⟩
    by_cases hn : x ∈ namesB k'
    · exact hn
    · rw [h, bey_none hn, eqV_refl] at h2; cases h2
  · rintro ⟨_, h2⟩
    refine ⟨?_, h2⟩
    by_cases hn : x ∈ namesB k
    · exact hn
    · rw [bey_none hn, eqV_refl] at h2; cases h2
/-! ### What is known -/
theorem has_bey (k : Kn) (id : ByteArray) (r c : Int) : hasK k id r c = (hasV k.star r c || hasV (beyB k id) r c) := by
  unfold hasK
  rw [Bool.eq_iff_iff]
  simp only [Bool.or_eq_true, List.any_eq_true, hasFr, Bool.and_eq_true, among_iff]
  unfold hasV cntV
  simp only [Bool.and_eq_true, decide_eq_true_eq]
  by_cases hr : 1 ≤ r ∧ r ≤ 8
  · simp only [if_pos hr]
    have hj : (r - 1).toNat < 8 := by omega
    generalize (r - 1).toNat = j at *
    have hb : beyB k id j = if rawF k.l id j ≤ k.star j then 0 else rawF k.l id j := by unfold beyB; rw [if_pos hj]
    rw [hb]
    constructor
    · rintro (h | ⟨f, hf, hm, h1, h2⟩)
      · exact .inl h
      · have := raw_ge hf hm j
        by_cases hc : c ≤ k.star j
        · exact .inl ⟨h1, hc⟩
        · right
          rw [if_neg (by omega)]
          exact ⟨h1, by omega⟩
    · rintro (h | ⟨h1, h2⟩)
      · exact .inl h
      · right
        split at h2
        · omega
        · rcases raw_is k.l id j with h | ⟨f, hf, hm, e⟩
          · omega
          · exact ⟨f, hf, hm, h1, by omega⟩
  · simp only [if_neg hr]
    constructor
    · rintro (h | ⟨f, _, _, h1, h2⟩)
      · exact .inl h
      · omega
    · rintro (h | h)
      · exact .inl h
      · omega
theorem has_plain (k : Kn) (id : ByteArray) (r c : Int) : hasK (plainB k) id r c = hasK k id r c := by
  rw [has_bey, has_bey k, bey_plain]; rfl
theorem max_more (A B : Nat → Int) (j : Nat) : maxV (maxV A B) B j = maxV A B j := by
  unfold maxV
  repeat' split
  all_goals omega
/-! ### One more -/
theorem has_with (k : Kn) (id other : ByteArray) (r c yr yc : Int) : hasK (withK k id r c) other yr yc = (hasK k other yr yc || ((id.toList == other.toList) && hasV (withV zeroV r c) yr yc)) := by
  unfold hasK withK
  rw [List.any_append]
  simp [hasFr, amongB, Bool.or_assoc]
theorem with_right (k : Kn) (id : ByteArray) {r c : Int} (h1 : 1 ≤ r) (h2 : r ≤ 8) (h3 : 1 ≤ c) : hasK (plainB (withK k id r c)) id r c = true := by
  rw [has_plain, has_with, with_has]
  simp [h1, h2, h3]
theorem with_was (k : Kn) (id other : ByteArray) (r c yr yc : Int) (h : hasK k other yr yc = true) : hasK (plainB (withK k id r c)) other yr yc = true := by
  rw [has_plain, has_with, h]; rfl
end Go.Proofs.YtjkcooakddlppaaGreat
/- Lists of items: whether two are the same, all of both: the document's answers, walked. -/
namespace Go.Proofs.YtjkcooakddlppaaGreat
set_option linter.unusedVariables false
set_option linter.unusedSimpArgs false
set_option maxRecDepth 100000
open Go.RowKit
def sameL (f : Itm → Itm → Bool) : List Itm → List Itm → Bool
  | [], [] => true
  | a :: l, b :: m => f a b && sameL f l m
  | _, _ => false
theorem sameL_len {f : Itm → Itm → Bool} : ∀ {l m : List Itm}, l.length ≠ m.length → sameL f l m = false
  | [], [], h => absurd rfl h
  | [], _ :: _, _ => rfl
  | _ :: _, [], _ => rfl
  | a :: l, b :: m, h => by
    simp only [sameL, Bool.and_eq_false_iff]
    exact .inr (sameL_len fun e => h (by simp [e]))
theorem sameL_iff {f : Itm → Itm → Bool} : ∀ {l m : List Itm}, l.length = m.length → (sameL f l m = true ↔ ∀ (j : Nat) (a b : Itm), l[j]? = some a → m[j]? = some b → f a b = true)
  | [], [], _ => by simp [sameL]
  | [], _ :: _, h => by simp at h
  | _ :: _, [], h => by simp at h
  | a :: l, b :: m, h => by
    simp only [sameL, Bool.and_eq_true]
    rw [sameL_iff (by simpa using h)]
    constructor
    · rintro ⟨h1, h2⟩ j x y hx hy
      cases j with
      | zero => simp at hx hy; subst hx hy; exact h1
      | succ j => exact h2 j x y (by simpa using hx) (by simpa using hy)
    · intro h
      exact ⟨h 0 a b rfl rfl, fun j x y hx hy => h (j + 1) x y (by simpa using hx) (by simpa using hy)⟩
theorem sameL_at {f : Itm → Itm → Bool} {l m : List Itm} (hl : l.length = m.length) {j : Nat} {a b : Itm} (ha : l[j]? = some a) (hb : m[j]? = some b) (h : f a b = false) : sameL f l m = false := by
  cases e : sameL f l m with
  | false => rfl
  | true => rw [(sameL_iff hl).1 e j a b ha hb] at h; cases h
def PairRel (f : Itm → Itm → Bool) (l m : List Itm) (len : Nat) (w : World) (iv : Value) (wr : World) : Prop :=
  ∃ k : Nat, k ≤ len ∧ iv = .int .i64 k ∧ Hid (∀ j a b, j < k → l[j]? = some a → m[j]? = some b → f a b = true) ∧ Hid (Below w.heap.size w wr)
set_option maxRecDepth 100000 in
set_option maxHeartbeats 4000000 in
theorem sameList_calls (f : Itm → Itm → Bool) (HF : ∀ (a b : Itm) (w : World), Calls Tryz.prog 76 #[iV a, iV b] w fun e w' => e = .returned (.bool (f a b)) ∧ Below w.heap.size w w')
    (l m : List Itm) (v v' : Value) (w : World) (hR : Row 8 ic w l v) (hM : Row 8 ic w m v') :
    Calls Tryz.prog 29 #[v, v'] w fun e w' => e = .returned (.bool (sameL f l m)) ∧ Below w.heap.size w w' := by
  obtain ⟨oa, cap, b, o, rfl, hr⟩ := hR
  obtain ⟨oa', cap', b', o', rfl, hr'⟩ := hM
  have HR := Lib.hid hr
  have HR' := Lib.hid hr'
  have hcap := hr.len
  have hmax := hr.max
  have hcap' := hr'.len
  have hmax' := hr'.max
  unfold maxLen at hmax hmax'
  clear hr hr'
  generalize hres : sameL f l m = res at *
  have HRES := Lib.hid hres
  clear hres
  generalize hn : l.length = len at *
  have HN := Lib.hid hn
  generalize hn' : m.length = len' at *
  have HN' := Lib.hid hn'
  clear hn hn'
  by_cases hne : len = len'
  case neg =>
    have E := Lib.hid (show res = false by rw [← HRES.out]; exact sameL_len (by rw [HN.out, HN'.out]; exact hne))
    go_enter Tryz.func29, Tryz.ntmps29
    go_wp2_with fail
    go_ret
    exact ⟨ret_bool E.out.symm, Below.refl _ _⟩
  subst hne
  go_enter Tryz.func29, Tryz.ntmps29
  go_wp2_with fail
  go_loopw [5] (fun iv wr => PairRel f l m len w iv wr) (fun iv _ => len - (intOf iv).toNat)
  case atStart => exact ⟨0, Nat.zero_le _, rfl, fun j a b hj => absurd hj (by omega), Below.refl _ _⟩
  case round =>
    obtain ⟨k, hk, rfl, HS, HB⟩ := hrel
    by_cases hlt : k < len
    · obtain ⟨i, hi9⟩ : ∃ i, l[k]? = some i := ⟨_, List.getElem?_eq_getElem (by rw [HN.out]; omega)⟩
      obtain ⟨y, hy9⟩ : ∃ y, m[k]? = some y := ⟨_, List.getElem?_eq_getElem (by rw [HN'.out]; omega)⟩
      obtain ⟨rfl, hb0⟩ := HR.out.at0 (by rw [HN.out]; omega)
      obtain ⟨rfl, hb0'⟩ := HR'.out.at0 (by rw [HN'.out]; omega)
      obtain ⟨c0, c1, c2, c3, c4, c5, c6, c7⟩ := ic_cells (w := wr) (fun j u hu => (HB.out.cell (p := ⟨b, o + k * 8 + j, none⟩) hb0).trans (HR.out.cell k i hi9 j u hu))
      obtain ⟨d0, d1, d2, d3, d4, d5, d6, d7⟩ := ic_cells (w := wr) (fun j u hu => (HB.out.cell (p := ⟨b', o' + k * 8 + j, none⟩) hb0').trans (HR'.out.cell k y hy9 j u hu))
      have r0 := fun dd os => cell_regrown c0 dd os
      have r1 := fun dd os => cell_regrown c1 dd os
      have r2 := fun dd os => cell_regrown c2 dd os
      have r3 := fun dd os => cell_regrown c3 dd os
      have r4 := fun dd os => cell_regrown c4 dd os
      have r5 := fun dd os => cell_regrown c5 dd os
      have r6 := fun dd os => cell_regrown c6 dd os
      have r7 := fun dd os => cell_regrown c7 dd os
      have s0 := fun dd os => cell_regrown d0 dd os
      have s1 := fun dd os => cell_regrown d1 dd os
      have s2 := fun dd os => cell_regrown d2 dd os
      have s3 := fun dd os => cell_regrown d3 dd os
      have s4 := fun dd os => cell_regrown d4 dd os
      have s5 := fun dd os => cell_regrown d5 dd os
      have s6 := fun dd os => cell_regrown d6 dd os
      have s7 := fun dd os => cell_regrown d7 dd os
      have m1 := fun dd os => Lib.hid (Calls.regrown_of (HF i y (Sort.grow (redrawn wr dd) os)))
      have k0 : (0 : Int) ≤ (k : Int) := by omega
      have k1 : (k : Int) < (len : Int) := by omega
      have HI := Lib.hid hi9
      have HY := Lib.hid hy9
      clear hi9 hy9 c0 d0 c1 d1 c2 d2 c3 d3 c4 d4 c5 d5 c6 d6 c7 d7
      cases ht : f i y
      · have E := Lib.hid (show res = false by rw [← HRES.out]; exact sameL_at (by rw [HN.out, HN'.out]) HI.out HY.out ht)
        rw [ht] at m1
        clear ht
        go_wp2_with fail
        refine wp_region_quiet_below (by kernel_rfl) (by kernel_rfl) ?_
        repeat (first | go_big_quiet_step ((with_reducible exact (m1 _ _).out)) | quiet_step ((with_reducible exact (m1 _ _).out)))
        refine wpQuiet_nil ?_
        intro w7 hw'
        have hb' := Lib.hid (regrown_below hw')
        clear hw'
        clear m1
        go_wp2_with fail
        go_ret
        exact ⟨ret_bool E.out.symm, HB.out.trans (hb'.out.mono HB.out.size)⟩
      · have HS2 := Lib.hid (show ∀ j a b, j < k + 1 → l[j]? = some a → m[j]? = some b → f a b = true from fun j a b hj ha hb => by
          by_cases e : j = k
          · subst e; rw [HI.out] at ha; rw [HY.out] at hb; cases ha; cases hb; exact ht
          · exact HS.out j a b (by omega) ha hb)
        rw [ht] at m1
        clear ht
        go_wp2_with fail
        refine wp_region_quiet_below (by kernel_rfl) (by kernel_rfl) ?_
        repeat (first | go_big_quiet_step ((with_reducible exact (m1 _ _).out)) | quiet_step ((with_reducible exact (m1 _ _).out)))
        refine wpQuiet_nil ?_
        intro w7 hw'
        have hb' := Lib.hid (regrown_below hw')
        clear hw'
        clear m1 r0 s0 r1 s1 r2 s2 r3 s3 r4 s4 r5 s5 r6 s6 r7 s7
        go_wp2_with fail
        go_roundw
        case rel => exact ⟨k + 1, by omega, by go_num, HS2.out, Lib.hid (HB.out.trans (hb'.out.mono HB.out.size))⟩
        case measure => simp [intOf]; omega
    · have E := Lib.hid (show res = true by
        rw [← HRES.out, sameL_iff (by rw [HN.out, HN'.out])]
        exact fun j a b ha hb => HS.out j a b (by have := some_posI ha; rw [HN.out] at this; omega) ha hb)
      go_wp2_with fail
      go_ret
      exact ⟨ret_bool E.out.symm, HB.out⟩
/-! ### All of both -/
def stepI (f : Itm → Itm → Bool) (out : List Itm) (y : Itm) : List Itm := if (!(getI out y.id).2 || f y (getI out y.id).1) = true then putI out y else out
def bothI (f : Itm → Itm → Bool) (a b : List Itm) : List Itm := b.foldl (stepI f) a
theorem both_take {f : Itm → Itm → Bool} {a b : List Itm} {k : Nat} {y : Itm} (h : b[k]? = some y) : bothI f a (b.take (k + 1)) = stepI f (bothI f a (b.take k)) y := by
  unfold bothI; rw [takeI h, List.foldl_append]; rfl
theorem putI_len (l : List Itm) (x : Itm) : (putI l x).length ≤ l.length + 1 := by
  unfold putI
  simp only [List.length_append, List.length_cons, List.length_nil]
  have : (l.filter fun i => lsB i.id x.id).length + (l.filter fun i => gtB i.id x.id).length ≤ l.length := by
    induction l with
    | nil => simp
    | cons a l ih =>
      simp only [List.filter_cons]
      cases h1 : lsB a.id x.id
      · cases gtB a.id x.id <;> simp <;> omega
      · have h2 : gtB a.id x.id = false := by
          unfold gtB
          unfold lsB at h1
          rw [h1]; rfl
        rw [h2]
        simp
        omega
  omega
theorem put_mem {l : List Itm} {x i : Itm} (h : i ∈ putI l x) : i ∈ l ∨ i = x := by
  unfold putI at h
  simp only [List.mem_append, List.mem_filter, List.mem_cons, List.not_mem_nil, or_false] at h
  rcases h with (h | h) | h
  · exact .inl h.1
  · exact .inr h
  · exact .inl h.1
theorem step_mem {f : Itm → Itm → Bool} {l : List Itm} {y i : Itm} (h : i ∈ stepI f l y) : i ∈ l ∨ i = y := by
  unfold stepI at h; split at h
  · exact put_mem h
  · exact .inl h
def BothRel (F : Nat → List Itm) (len n0 : Nat) (w : World) (lv iv : Value) (wr : World) : Prop :=
  ∃ (k : Nat) (sv : Value), k ≤ len ∧ iv = .int .i64 k ∧ sv = lv ∧ Hid (Row 8 ic wr (F k) sv) ∧ Hid ((F k).length ≤ n0 + k) ∧ Hid (Below w.heap.size w wr)
theorem run_storeCells_nil {P : Program} (w : World) (a : Addr) : (storeCells a ([] : List Value)).run P w = .ok () w := by simp [storeCells]
attribute [local go_sem] run_storeCells_nil
set_option maxRecDepth 100000 in
set_option maxHeartbeats 8000000 in
theorem both_calls (f : Itm → Itm → Bool) (HF : ∀ (a b : Itm) (w : World), Calls Tryz.prog 28 #[iV a, iV b] w fun e w' => e = .returned (.bool (f a b)) ∧ Below w.heap.size w w')
    (l m : List Itm) (v v' : Value) (w : World) (hR : Row 8 ic w l v) (hM : Row 8 ic w m v') (h1 : l.length ≤ 1000) (h2 : m.length ≤ 1000) :
    Calls Tryz.prog 75 #[v, v'] w fun e w' => ∃ v2, e = .returned v2 ∧ Row 8 ic w' (bothI f l m) v2 ∧ Below w.heap.size w w' := by
  obtain ⟨oa, cap, b, o, rfl, hr⟩ := hR
  obtain ⟨oa', cap', b', o', rfl, hr'⟩ := hM
  obtain ⟨i0, hi, hz0, hz1, hz2⟩ := info_parts info_item
  have HR := Lib.hid hr
  have HR' := Lib.hid hr'
  have hcap := hr.len
  have hmax := hr.max
  have hcap' := hr'.len
  have hmax' := hr'.max
  unfold maxLen at hmax hmax'
  clear hr hr'
  generalize hn : l.length = len at *
  have HN := Lib.hid hn
  generalize hn' : m.length = len' at *
  have HN' := Lib.hid hn'
  clear hn hn'
  go_enter Tryz.func75, Tryz.ntmps75
  go_upto_region 1 with fail
  go_cut [5] (fun s5 wx => Hid (Row 8 ic wx l s5 ∧ Below w.heap.size w wx))
  case first =>
    have B1 := Lib.hid ((Below.refl w.heap.size w).alloc (Nat.le_refl _) (.cells #[] 49))
    by_cases hz : len = 0
    · subst hz
      have hl0 : l = [] := List.length_eq_zero_iff.1 HN.out
      have HZ := Lib.hid (show Row 8 ic (w.alloc (.cells #[] 49)) l (.slice (some ⟨w.heap.size, 0, none⟩) 0 0) by
        subst hl0
        exact ⟨_, 0, w.heap.size, 0, rfl, Nat.le_refl _, by decide, fun h => absurd h (by simp), fun k i h => by simp at h, fun i h => by simp at h⟩)
      clear hl0
      cases oa
      all_goals
        go_wp2_with fail
        go_meet
        exact ⟨HZ.out, B1.out⟩
    · obtain ⟨rfl, hb0⟩ := HR.out.at0 (by rw [HN.out]; omega)
      have O1 : OwnI (w.alloc (.cells #[] 49)) w.heap.size [] (.slice (some ⟨w.heap.size, 0, none⟩) 0 0) :=
        ⟨rfl, .inr ⟨w.heap.size, 0, #[], rfl, Nat.le_refl _, heap_alloc_new w _, Nat.le_refl _, by decide, rfl, rfl⟩⟩
      have HO1 := Lib.hid O1
      have hown : (w.alloc (.cells #[] 49)).ownsRow w.heap.size 49 8 (.slice (some ⟨w.heap.size, 0, none⟩) 0 0) 0 [] := O1
      clear O1
      have hcl := cellsI_len l
      rw [HN.out] at hcl
      have HL := Lib.hid hcl
      clear hcl
      have hone : ∀ u ∈ cellsI l, u.oneCell' = true := by
        intro u hu
        unfold cellsI at hu
        rw [List.mem_flatMap] at hu
        obtain ⟨i, _, hu⟩ := hu
        exact itI_one i u hu
      have HONE := Lib.hid hone
      clear hone
      go_wp2_with (at_builtin; refine wpList_append_lies _ (by rfl) _ _ _ (by rfl) w.heap.size 49 i0 _ 8 88 Tryz.underlying44 hi hz0 hz1 hz2 rfl (by omega) (.slice (some ⟨w.heap.size, 0, none⟩) 0 0) 0 [] (by rfl) hown ⟨b, o, none⟩ len cap (cellsI l) (by rfl) HL.out (rowI_news (HR.out.later ((Below.refl _ _).alloc (Nat.le_refl _) _)) HN.out) HONE.out (by omega) (by unfold maxLen; omega) (by omega) (by simp) (w.heap.size + 1) (by simp) ?_; intro g cap2 w3 hown3 hgrow hat hlt3)
      have R1 := Lib.hid (show OwnI w3 w.heap.size l (.slice (some ⟨g, 0, none⟩) len cap2) by
        unfold OwnI
        rw [HN.out]
        simpa using hown3)
      have R2 := Lib.hid (below_push HO1.out B1.out (Nat.le_refl _) hgrow B1.out.size)
      clear hown hown3 hgrow hat
      go_meet
      exact ⟨R1.out.row HR.out.ok, R2.out⟩
  case rest =>
    obtain ⟨hrow, hbel⟩ := hcut.out
    have HROW := Lib.hid hrow
    have HBEL := Lib.hid hbel
    clear hcut hrow hbel
    go_wp2_with fail
    go_loopw [5, 6] (fun lv iv wr => BothRel (fun k => bothI f l (m.take k)) len' len w lv iv wr) (fun _ iv _ => len' - (intOf iv).toNat)
    case atStart => exact ⟨0, _, Nat.zero_le _, rfl, rfl, by unfold Hid; exact HROW.out, by unfold Hid; show l.length ≤ _; rw [HN.out]; omega, HBEL⟩
    case round =>
      obtain ⟨k, sv, hk, rfl, rfl, HO, HLEN, HB⟩ := hrel
      replace HO := Lib.hid (show Row 8 ic wr (bothI f l (m.take k)) sv from HO.out)
      replace HLEN := Lib.hid (show (bothI f l (m.take k)).length ≤ len + k from HLEN.out)
      by_cases hlt : k < len'
      · obtain ⟨y, hy9⟩ : ∃ y, m[k]? = some y := ⟨_, List.getElem?_eq_getElem (by rw [HN'.out]; omega)⟩
        obtain ⟨rfl, hb0'⟩ := HR'.out.at0 (by rw [HN'.out]; omega)
        have hs := both_take (f := f) (a := l) hy9
        generalize bothI f l (m.take k) = out at *
        have HS := Lib.hid hs
        have HY := Lib.hid hy9
        obtain ⟨oo, co, bo, ofo, rfl, hro⟩ := HO.out
        have HRO := Lib.hid hro
        have GT := Lib.hid (refGet_calls out y.id (.slice oo out.length co) wr ⟨oo, co, bo, ofo, rfl, hro⟩)
        have hol := HLEN.out
        have hoc := hro.len
        have hom := hro.max
        unfold maxLen at hom
        generalize hgg : getI out y.id = g at *
        have HG := Lib.hid hgg
        have d0 := (ic_cells (w := wr) (fun j u hu => (HB.out.cell (p := ⟨b', o' + k * 8 + j, none⟩) hb0').trans (HR'.out.cell k y hy9 j u hu))).1
        have zb := Nat.lt_of_lt_of_le hb0' HB.out.size
        clear hs hy9 hro hgg
        go_wp2_with fail
        refine GT.out.mono ?_
        rintro e w2 ⟨rfl, hb2⟩
        have HB2 := Lib.hid (HB.out.trans (hb2.mono HB.out.size))
        have HRO2 := Lib.hid (HRO.out.later hb2)
        clear hb2 d0
        go_wp2_with fail
        have OH := Lib.hid (Own.new w2 #[.string g.1.id, .int .i64 g.1.r, .int .i64 g.1.c, .int .i64 g.1.st, .string g.1.kd, .int .i64 g.1.num, .complex .f64 g.1.x g.1.y, .bool g.1.d] 49)
        have HB3 := Lib.hid (HB2.out.alloc HB2.out.size (.cells #[.string g.1.id, .int .i64 g.1.r, .int .i64 g.1.c, .int .i64 g.1.st, .string g.1.kd, .int .i64 g.1.num, .complex .f64 g.1.x g.1.y, .bool g.1.d] 49))
        have HRO3 := Lib.hid (HRO2.out.later ((Below.refl _ _).alloc (Nat.le_refl _) (.cells #[.string g.1.id, .int .i64 g.1.r, .int .i64 g.1.c, .int .i64 g.1.st, .string g.1.kd, .int .i64 g.1.num, .complex .f64 g.1.x g.1.y, .bool g.1.d] 49)))
        generalize w2.heap.size = NH at *
        generalize w2.alloc (.cells #[.string g.1.id, .int .i64 g.1.r, .int .i64 g.1.c, .int .i64 g.1.st, .string g.1.kd, .int .i64 g.1.num, .complex .f64 g.1.x g.1.y, .bool g.1.d] 49) = w3 at *
        obtain ⟨d0, d1, d2, d3, d4, d5, d6, d7⟩ := ic_cells (w := w3) (fun j u hu => (HB3.out.cell (p := ⟨b', o' + k * 8 + j, none⟩) hb0').trans (HR'.out.cell k y HY.out j u hu))
        have r0 := fun dd os => cell_regrown d0 dd os
        have r1 := fun dd os => cell_regrown d1 dd os
        have r2 := fun dd os => cell_regrown d2 dd os
        have r3 := fun dd os => cell_regrown d3 dd os
        have r4 := fun dd os => cell_regrown d4 dd os
        have r5 := fun dd os => cell_regrown d5 dd os
        have r6 := fun dd os => cell_regrown d6 dd os
        have r7 := fun dd os => cell_regrown d7 dd os
        have LA := fun dd os o => OH.out.has.regrown dd os o
        have zb3 := Nat.lt_of_lt_of_le hb0' HB3.out.size
        have k0 : (0 : Int) ≤ (k : Int) := by omega
        have k1 : (k : Int) < (len' : Int) := by omega
        clear d0 d1 d2 d3 d4 d5 d6 d7
        have m1 := fun dd os => Lib.hid (Calls.regrown_of (HF y g.1 (Sort.grow (redrawn w3 dd) os)))
        have hsp : (!g.2 || f y g.1) = true → bothI f l (m.take (k + 1)) = putI out y := fun h => by rw [HS.out]; unfold stepI; rw [HG.out, if_pos h]
        have hsk : (!g.2 || f y g.1) = false → bothI f l (m.take (k + 1)) = out := fun h => by rw [HS.out]; unfold stepI; rw [HG.out, if_neg (by rw [h]; simp)]
        have HSP := Lib.hid hsp
        have HSK := Lib.hid hsk
        clear hsp hsk
        generalize f y g.1 = fy at *
        generalize hg2 : g.2 = g2 at *
        have hways : (g2 = false) ∨ (g2 = true ∧ fy = true) ∨ (g2 = true ∧ fy = false) := by cases g2 <;> cases fy <;> simp
        rcases hways with rfl | ⟨rfl, rfl⟩ | ⟨rfl, rfl⟩
        · go_wp2_with fail
          refine wp_region_quiet_below (by kernel_rfl) (by kernel_rfl) ?_
          repeat (first | go_big_quiet_step ((with_reducible exact (m1 _ _).out)) | quiet_step ((with_reducible exact (m1 _ _).out)))
          refine wpQuiet_nil ?_
          intro w7 hw'
          have hb' := Lib.hid (regrown_below hw')
          clear hw'
          clear m1 LA r0 r1 r2 r3 r4 r5 r6 r7
          have HB7 := Lib.hid (HB3.out.trans (hb'.out.mono HB3.out.size))
          have HRO7 := Lib.hid (HRO3.out.later hb'.out)
          have hst := HSP.out rfl
          have HST := Lib.hid hst
          clear hst
          obtain ⟨d0, d1, d2, d3, d4, d5, d6, d7⟩ := ic_cells (w := w7) (fun j u hu => (HB7.out.cell (p := ⟨b', o' + k * 8 + j, none⟩) hb0').trans (HR'.out.cell k y HY.out j u hu))
          have zb7 := Nat.lt_of_lt_of_le hb0' HB7.out.size
          have PT := Lib.hid (refPut_calls out y (.slice oo out.length co) w7 ⟨oo, co, bo, ofo, rfl, HRO7.out⟩ (by omega))
          go_wp2_with fail
          refine PT.out.mono ?_
          rintro e w8 ⟨v8, rfl, ho8, hb8⟩
          have HB8 := Lib.hid (HB7.out.trans (hb8.mono HB7.out.size))
          have HR8 := Lib.hid (ho8.row (fun i hi => by
            rcases put_mem hi with h | h
            · exact HRO7.out.ok i h
            · rw [h]; exact HR'.out.ok y (List.mem_of_getElem? HY.out)))
          clear ho8 hb8
          go_wp2_with fail
          go_roundw
          case rel => exact ⟨k + 1, _, by omega, by go_num, rfl, Lib.hid (by show Row 8 ic w8 (bothI f l (m.take (k + 1))) v8; rw [HST.out]; exact HR8.out), Lib.hid (by show (bothI f l (m.take (k + 1))).length ≤ _; rw [HST.out]; have := putI_len out y; omega), HB8⟩
          case measure => simp [intOf]; omega
        · go_wp2_with fail
          refine wp_region_quiet_below (by kernel_rfl) (by kernel_rfl) ?_
          repeat (first | go_big_quiet_step ((with_reducible exact (m1 _ _).out)) | quiet_step ((with_reducible exact (m1 _ _).out)))
          refine wpQuiet_nil ?_
          intro w7 hw'
          have hb' := Lib.hid (regrown_below hw')
          clear hw'
          clear m1 LA r0 r1 r2 r3 r4 r5 r6 r7
          have HB7 := Lib.hid (HB3.out.trans (hb'.out.mono HB3.out.size))
          have HRO7 := Lib.hid (HRO3.out.later hb'.out)
          have hst := HSP.out rfl
          have HST := Lib.hid hst
          clear hst
          obtain ⟨d0, d1, d2, d3, d4, d5, d6, d7⟩ := ic_cells (w := w7) (fun j u hu => (HB7.out.cell (p := ⟨b', o' + k * 8 + j, none⟩) hb0').trans (HR'.out.cell k y HY.out j u hu))
          have zb7 := Nat.lt_of_lt_of_le hb0' HB7.out.size
          have PT := Lib.hid (refPut_calls out y (.slice oo out.length co) w7 ⟨oo, co, bo, ofo, rfl, HRO7.out⟩ (by omega))
          go_wp2_with fail
          refine PT.out.mono ?_
          rintro e w8 ⟨v8, rfl, ho8, hb8⟩
          have HB8 := Lib.hid (HB7.out.trans (hb8.mono HB7.out.size))
          have HR8 := Lib.hid (ho8.row (fun i hi => by
            rcases put_mem hi with h | h
            · exact HRO7.out.ok i h
            · rw [h]; exact HR'.out.ok y (List.mem_of_getElem? HY.out)))
          clear ho8 hb8
          go_wp2_with fail
          go_roundw
          case rel => exact ⟨k + 1, _, by omega, by go_num, rfl, Lib.hid (by show Row 8 ic w8 (bothI f l (m.take (k + 1))) v8; rw [HST.out]; exact HR8.out), Lib.hid (by show (bothI f l (m.take (k + 1))).length ≤ _; rw [HST.out]; have := putI_len out y; omega), HB8⟩
          case measure => simp [intOf]; omega
        · go_wp2_with fail
          refine wp_region_quiet_below (by kernel_rfl) (by kernel_rfl) ?_
          repeat (first | go_big_quiet_step ((with_reducible exact (m1 _ _).out)) | quiet_step ((with_reducible exact (m1 _ _).out)))
          refine wpQuiet_nil ?_
          intro w7 hw'
          have hb' := Lib.hid (regrown_below hw')
          clear hw'
          clear m1 LA r0 r1 r2 r3 r4 r5 r6 r7
          have HB7 := Lib.hid (HB3.out.trans (hb'.out.mono HB3.out.size))
          have HRO7 := Lib.hid (HRO3.out.later hb'.out)
          have hst := HSK.out rfl
          have HST := Lib.hid hst
          clear hst
          go_wp2_with fail
          go_roundw
          case rel => exact ⟨k + 1, _, by omega, by go_num, rfl, Lib.hid (by show Row 8 ic w7 (bothI f l (m.take (k + 1))) _; rw [HST.out]; exact ⟨oo, co, bo, ofo, rfl, HRO7.out⟩), Lib.hid (by show (bothI f l (m.take (k + 1))).length ≤ _; rw [HST.out]; omega), HB7⟩
          case measure => simp [intOf]; omega
      · have e : len' = k := by omega
        subst e
        have h9 := HO.out
        rw [List.take_of_length_le (by rw [HN'.out]; omega)] at h9
        have H9 := Lib.hid h9
        clear h9
        go_wp2_with fail
        go_ret
        exact ⟨_, rfl, H9.out, HB.out⟩
end Go.Proofs.YtjkcooakddlppaaGreat
