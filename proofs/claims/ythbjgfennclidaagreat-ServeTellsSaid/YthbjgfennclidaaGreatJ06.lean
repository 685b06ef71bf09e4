/- Joined: KnowM, RefList3, ItemC, KnowW, ItemD. -/
import Derived.Test.YthbjgfennclidaaGreatJ04
import Derived.Test.YthbjgfennclidaaGreatJ01
import Derived.Test.YthbjgfennclidaaGreatJ05
/- What is known: plain mathematics. No walk. -/
namespace Go.Proofs.YthbjgfennclidaaGreat
set_option linter.unusedVariables false
set_option linter.unusedSimpArgs false
set_option maxRecDepth 100000
open Go.RowKit
structure Fr where
  ids : List ByteArray
  v : Nat → Int
structure Kn where
  star : Nat → Int
  l : List Fr
def eqV (A B : Nat → Int) : Bool := (List.range 8).all fun k => A k == B k
theorem eqV_iff {A B : Nat → Int} : eqV A B = true ↔ ∀ k, k < 8 → A k = B k := by simp [eqV, List.all_eq_true]
theorem eqV_refl (A : Nat → Int) : eqV A A = true := eqV_iff.2 fun _ _ => rfl
def zeroV : Nat → Int := fun _ => 0
def Trunc8 (A : Nat → Int) : Prop := ∀ j, 8 ≤ j → A j = 0
/-! ### Texts among others; one put among them -/
def amongB (l : List ByteArray) (s : ByteArray) : Bool := l.any fun x => x.toList == s.toList
theorem among_iff {l : List ByteArray} {s : ByteArray} : amongB l s = true ↔ s ∈ l := by
  unfold amongB
  rw [List.any_eq_true]
  constructor
  · rintro ⟨x, hx, e⟩; rw [tl_eq.1 e] at hx; exact hx
  · intro h; exact ⟨s, h, tl_eq.2 rfl⟩
def insStep (s : ByteArray) (st : List ByteArray × Bool) (a : ByteArray) : List ByteArray × Bool :=
  let p := !st.2 && leB s a
  let o := if p = true then st.1 ++ [s] else st.1
  (if (a.toList == s.toList) = true then o else o ++ [a], st.2 || p)
def insF (s : ByteArray) (l : List ByteArray) : List ByteArray × Bool := l.foldl (insStep s) ([], false)
def insB (l : List ByteArray) (s : ByteArray) : List ByteArray := if (insF s l).2 = true then (insF s l).1 else (insF s l).1 ++ [s]
def insR (s : ByteArray) : List ByteArray → List ByteArray
  | [] => [s]
  | a :: l => if leB s a = true then s :: (a :: l).filter (fun x => !(x.toList == s.toList)) else a :: insR s l
theorem ins_done (s : ByteArray) (l : List ByteArray) : ∀ o : List ByteArray, l.foldl (insStep s) (o, true) = (o ++ l.filter (fun x => !(x.toList == s.toList)), true) := by
  induction l with
  | nil => intro o; simp
  | cons a l ih =>
    intro o
    rw [List.foldl_cons]
    have e : insStep s (o, true) a = (if (a.toList == s.toList) = true then o else o ++ [a], true) := by simp [insStep]
    rw [e, ih]
    cases h : (a.toList == s.toList) <;> simp [h]
theorem ins_go (s : ByteArray) (l : List ByteArray) : ∀ o : List ByteArray, (if (l.foldl (insStep s) (o, false)).2 = true then (l.foldl (insStep s) (o, false)).1 else (l.foldl (insStep s) (o, false)).1 ++ [s]) = o ++ insR s l := by
  induction l with
  | nil => intro o; simp [insR]
  | cons a l ih =>
    intro o
    rw [List.foldl_cons, insR]
    cases h : leB s a with
    | true =>
      have e : insStep s (o, false) a = (if (a.toList == s.toList) = true then o ++ [s] else o ++ [s] ++ [a], true) := by simp [insStep, h]
      rw [e, ins_done]
      cases h' : (a.toList == s.toList) <;> simp [h']
    | false =>
      have hn : (a.toList == s.toList) = false := tl_ne.2 (ls_ne (le_not h))
      have e : insStep s (o, false) a = (o ++ [a], false) := by simp [insStep, h, hn]
      rw [e, ih]
      simp
theorem ins_eq (l : List ByteArray) (s : ByteArray) : insB l s = insR s l := by
  exact (ins_go s l []).trans (List.nil_append _)
theorem mem_ins {l : List ByteArray} {s x : ByteArray} : x ∈ insB l s ↔ x = s ∨ x ∈ l := by
  rw [ins_eq]
  induction l with
  | nil => simp [insR]
  | cons a l ih =>
    rw [insR]
    cases h : leB s a with
    | true =>
      simp only [if_true, List.mem_cons, List.mem_filter, Bool.not_eq_true', tl_ne]
      constructor
      · rintro (h | ⟨h, _⟩)
        · exact .inl h
        · exact .inr h
      · rintro (h | h)
        · exact .inl h
        · by_cases e : x = s
          · exact .inl e
          · exact .inr ⟨h, e⟩
    | false =>
      simp only [Bool.false_eq_true, if_false, List.mem_cons, ih]
      constructor
      · rintro (h | h | h)
        · exact .inr (.inl h)
        · exact .inl h
        · exact .inr (.inr h)
      · rintro (h | h | h)
        · exact .inr (.inl h)
        · exact .inl h
        · exact .inr (.inr h)
theorem rise_ins {l : List ByteArray} {s : ByteArray} (h : Rise l) : Rise (insB l s) := by
  rw [ins_eq]
  induction l with
  | nil => simp [insR, Rise]
  | cons a l ih =>
    rw [rise_cons] at h
    rw [insR]
    cases hs : leB s a with
    | true =>
      rw [if_pos rfl, rise_cons]
      refine ⟨fun x hx => ?_, rise_filter (rise_cons.2 h)⟩
      rw [List.mem_filter] at hx
      obtain ⟨hx, hne⟩ := hx
      rw [Bool.not_eq_true', tl_ne] at hne
      have hax : x = a ∨ lsB a x = true := by
        rcases List.mem_cons.1 hx with e | hx
        · exact .inl e
        · exact .inr (h.1 x hx)
      rcases le_iff.1 hs with h1 | h1
      · rcases hax with e | h2
        · subst e; exact h1
        · exact ls_trans h1 h2
      · subst h1
        rcases hax with e | h2
        · exact absurd e hne
        · exact h2
    | false =>
      rw [if_neg (by simp), rise_cons]
      refine ⟨fun x hx => ?_, ih h.2⟩
      rw [← ins_eq, mem_ins] at hx
      rcases hx with e | hx
      · subst e; exact le_not hs
      · exact h.1 x hx
theorem len_ins (l : List ByteArray) (s : ByteArray) : (insB l s).length ≤ l.length + 1 := by
  rw [ins_eq]
  induction l with
  | nil => simp [insR]
  | cons a l ih =>
    rw [insR]
    split
    · have := List.length_filter_le (fun x : ByteArray => !(x.toList == s.toList)) (a :: l)
      simp only [List.length_cons] at *; omega
    · simp only [List.length_cons]; omega
def insAll (l : List ByteArray) : List ByteArray := l.foldl insB []
def flatI (l : List Fr) : List ByteArray := l.flatMap (·.ids)
def namesB (k : Kn) : List ByteArray := insAll (flatI k.l)
theorem insAll_snoc (l : List ByteArray) (s : ByteArray) : insAll (l ++ [s]) = insB (insAll l) s := by simp [insAll]
theorem foldl_ins (l : List ByteArray) : ∀ o : List ByteArray, Rise o → Rise (l.foldl insB o) ∧ (∀ x, x ∈ l.foldl insB o ↔ x ∈ o ∨ x ∈ l) ∧ (l.foldl insB o).length ≤ o.length + l.length := by
  induction l with
  | nil => intro o h; exact ⟨h, fun x => by simp, by simp⟩
  | cons a l ih =>
    intro o h
    obtain ⟨h1, h2, h3⟩ := ih (insB o a) (rise_ins h)
    refine ⟨h1, fun x => ?_, ?_⟩
    · rw [List.foldl_cons, h2, mem_ins, List.mem_cons]
      constructor
      · rintro ((h | h) | h)
        · exact .inr (.inl h)
        · exact .inl h
        · exact .inr (.inr h)
      · rintro (h | h | h)
        · exact .inl (.inr h)
        · exact .inl (.inl h)
        · exact .inr h
    · have := len_ins o a
      simp only [List.foldl_cons, List.length_cons] at *; omega
theorem rise_all (l : List ByteArray) : Rise (insAll l) := (foldl_ins l [] (by simp [Rise])).1
theorem mem_all {l : List ByteArray} {x : ByteArray} : x ∈ insAll l ↔ x ∈ l := by
  have := (foldl_ins l [] (by simp [Rise])).2.1 x
  unfold insAll
  simpa using this
theorem len_all (l : List ByteArray) : (insAll l).length ≤ l.length := by
  have := (foldl_ins l [] (by simp [Rise])).2.2
  unfold insAll
  simpa using this
/-! ### What the pieces know -/
def rawStep (id : ByteArray) (A : Nat → Int) (f : Fr) : Nat → Int := if amongB f.ids id = true then maxV A f.v else A
def rawF (l : List Fr) (id : ByteArray) : Nat → Int := l.foldl (rawStep id) zeroV
def beyB (k : Kn) (id : ByteArray) (j : Nat) : Int := if j < 8 then (if rawF k.l id j ≤ k.star j then 0 else rawF k.l id j) else 0
theorem bey_trunc (k : Kn) (id : ByteArray) : Trunc8 (beyB k id) := fun j hj => by unfold beyB; rw [if_neg (by omega)]
/-! ### Made plain -/
def putF (v : Nat → Int) (id : ByteArray) : List Fr → List Fr
  | [] => [⟨[id], v⟩]
  | f :: l => if eqV f.v v = true then ⟨f.ids ++ [id], f.v⟩ :: l else f :: putF v id l
def grpStep (F : ByteArray → Nat → Int) (o : List Fr) (id : ByteArray) : List Fr := if eqV (F id) zeroV = true then o else putF (F id) id o
def grpF (F : ByteArray → Nat → Int) (ids : List ByteArray) : List Fr := ids.foldl (grpStep F) []
def plainB (k : Kn) : Kn := ⟨k.star, grpF (beyB k) (namesB k)⟩
def hasFr (id : ByteArray) (r c : Int) (f : Fr) : Bool := amongB f.ids id && hasV f.v r c
def hasK (k : Kn) (id : ByteArray) (r c : Int) : Bool := hasV k.star r c || k.l.any (hasFr id r c)
def eqIds : List ByteArray → List ByteArray → Bool
  | [], [] => true
  | a :: l, b :: m => (a.toList == b.toList) && eqIds l m
  | _, _ => false
def eqFr (a b : Fr) : Bool := eqV a.v b.v && eqIds a.ids b.ids
def eqFrs : List Fr → List Fr → Bool
  | [], [] => true
  | a :: l, b :: m => eqFr a b && eqFrs l m
  | _, _ => false
def alikeK (a b : Kn) : Bool := eqV a.star b.star && eqFrs a.l b.l
theorem eqIds_refl : ∀ l : List ByteArray, eqIds l l = true
  | [] => rfl
  | a :: l => by simp [eqIds, eqIds_refl l]
theorem eqFrs_refl : ∀ l : List Fr, eqFrs l l = true
  | [] => rfl
  | a :: l => by simp [eqFrs, eqFr, eqV_refl, eqIds_refl, eqFrs_refl l]
theorem alike_of {a b : Kn} (hs : eqV a.star b.star = true) (hl : a.l = b.l) : alikeK a b = true := by
  unfold alikeK; rw [hs, hl, eqFrs_refl]; rfl
theorem alike_refl (a : Kn) : alikeK a a = true := alike_of (eqV_refl _) rfl
theorem mem_putF {v : Nat → Int} {id : ByteArray} : ∀ {o : List Fr} {f : Fr}, f ∈ putF v id o → f ∈ o ∨ f = ⟨[id], v⟩ ∨ ∃ g ∈ o, eqV g.v v = true ∧ f = ⟨g.ids ++ [id], g.v⟩
  | [], f, h => by simp only [putF, List.mem_singleton] at h; exact .inr (.inl h)
  | g :: o, f, h => by
    rw [putF] at h
    by_cases e : eqV g.v v = true
    · rw [if_pos e] at h
      rcases List.mem_cons.1 h with h | h
      · exact .inr (.inr ⟨g, by simp, e, h⟩)
      · exact .inl (by simp [h])
    · rw [if_neg e] at h
      rcases List.mem_cons.1 h with h | h
      · exact .inl (by simp [h])
      · rcases mem_putF h with h | h | ⟨g', hg, e', h⟩
        · exact .inl (by simp [h])
        · exact .inr (.inl h)
        · exact .inr (.inr ⟨g', by simp [hg], e', h⟩)
theorem put_ids {v : Nat → Int} {id x : ByteArray} : ∀ {o : List Fr}, (∃ f ∈ putF v id o, x ∈ f.ids) → x = id ∨ ∃ f ∈ o, x ∈ f.ids := by
  rintro o ⟨f, hf, hm⟩
  rcases mem_putF hf with hf | hf | ⟨g, hg, _, hf⟩
  · exact .inr ⟨f, hf, hm⟩
  · subst hf; simp at hm; exact .inl hm
  · subst hf
    rcases List.mem_append.1 hm with hm | hm
    · exact .inr ⟨g, hg, hm⟩
    · simp at hm; exact .inl hm
/-! ### What is known -/
theorem max_more (A B : Nat → Int) (j : Nat) : maxV (maxV A B) B j = maxV A B j := by
  unfold maxV
  repeat' split
  all_goals omega
/-! ### One more -/
end Go.Proofs.YthbjgfennclidaaGreat
/- Lists of items: whether two are the same, all of both: the document's answers, walked. -/
namespace Go.Proofs.YthbjgfennclidaaGreat
set_option linter.unusedVariables false
set_option linter.unusedSimpArgs false
set_option maxRecDepth 100000
open Go.RowKit
/-! ### All of both -/
def stepI (f : Itm → Itm → Bool) (out : List Itm) (y : Itm) : List Itm := if (!(getI out y.id).2 || f y (getI out y.id).1) = true then putI out y else out
def bothI (f : Itm → Itm → Bool) (a b : List Itm) : List Itm := b.foldl (stepI f) a
theorem both_take {f : Itm → Itm → Bool} {a b : List Itm} {k : Nat} {y : Itm} (h : b[k]? = some y) : bothI f a (b.take (k + 1)) = stepI f (bothI f a (b.take k)) y := by
  unfold bothI; rw [takeI h, List.foldl_append]; rfl
theorem putI_len (l : List Itm) (x : Itm) : (putI l x).length ≤ l.length + 1 := by
  unfold putI
  simp only [List.length_append, List.length_cons, List.length_nil]
  have : (l.filter fun i => lsB i.id x.id).length + (l.filter fun i => gtB i.id x.id).length ≤ l.length := by
    induction l with
    | nil => simp
    | cons a l ih =>
      simp only [List.filter_cons]
      cases h1 : lsB a.id x.id
      · cases gtB a.id x.id <;> simp <;> omega
      · have h2 : gtB a.id x.id = false := by
          unfold gtB
          unfold lsB at h1
          rw [h1]; rfl
        rw [h2]
        simp
        omega
  omega
theorem put_mem {l : List Itm} {x i : Itm} (h : i ∈ putI l x) : i ∈ l ∨ i = x := by
  unfold putI at h
  simp only [List.mem_append, List.mem_filter, List.mem_cons, List.not_mem_nil, or_false] at h
  rcases h with (h | h) | h
  · exact .inl h.1
  · exact .inr h
  · exact .inl h.1
theorem step_len (f : Itm → Itm → Bool) (l : List Itm) (y : Itm) : (stepI f l y).length ≤ l.length + 1 := by
  unfold stepI; split
  · exact putI_len l y
  · omega
theorem step_mem {f : Itm → Itm → Bool} {l : List Itm} {y i : Itm} (h : i ∈ stepI f l y) : i ∈ l ∨ i = y := by
  unfold stepI at h; split at h
  · exact put_mem h
  · exact .inl h
def BothRel (F : Nat → List Itm) (len n0 : Nat) (w : World) (lv iv : Value) (wr : World) : Prop :=
  ∃ (k : Nat) (sv : Value), k ≤ len ∧ iv = .int .i64 k ∧ sv = lv ∧ Hid (Row 8 ic wr (F k) sv) ∧ Hid ((F k).length ≤ n0 + k) ∧ Hid (Below w.heap.size w wr)
theorem run_storeCells_nil {P : Program} (w : World) (a : Addr) : (storeCells a ([] : List Value)).run P w = .ok () w := by simp [storeCells]
attribute [local go_sem] run_storeCells_nil
set_option maxRecDepth 100000 in
set_option maxHeartbeats 8000000 in
theorem both_calls (f : Itm → Itm → Bool) (HF : ∀ (a b : Itm) (w : World), Calls Tryz.prog 62 #[iV a, iV b] w fun e w' => e = .returned (.bool (f a b)) ∧ Below w.heap.size w w')
    (l m : List Itm) (v v' : Value) (w : World) (hR : Row 8 ic w l v) (hM : Row 8 ic w m v') (h1 : l.length ≤ 1000) (h2 : m.length ≤ 1000) :
    Calls Tryz.prog 22 #[v, v'] w fun e w' => ∃ v2, e = .returned v2 ∧ Row 8 ic w' (bothI f l m) v2 ∧ Below w.heap.size w w' := by
  obtain ⟨oa, cap, b, o, rfl, hr⟩ := hR
  obtain ⟨oa', cap', b', o', rfl, hr'⟩ := hM
  obtain ⟨i0, hi, hz0, hz1, hz2⟩ := info_parts info_item
  have HR := Lib.hid hr
  have HR' := Lib.hid hr'
  have hcap := hr.len
  have hmax := hr.max
  have hcap' := hr'.len
  have hmax' := hr'.max
  unfold maxLen at hmax hmax'
  clear hr hr'
  generalize hn : l.length = len at *
  have HN := Lib.hid hn
  generalize hn' : m.length = len' at *
  have HN' := Lib.hid hn'
  clear hn hn'
  go_enter Tryz.func22, Tryz.ntmps22
  go_upto_region 1 with fail
  go_cut [5] (fun s5 wx => Hid (Row 8 ic wx l s5 ∧ Below w.heap.size w wx))
  case first =>
    have B1 := Lib.hid ((Below.refl w.heap.size w).alloc (Nat.le_refl _) (.cells #[] 68))
    by_cases hz : len = 0
    · subst hz
      have hl0 : l = [] := List.length_eq_zero_iff.1 HN.out
      have HZ := Lib.hid (show Row 8 ic (w.alloc (.cells #[] 68)) l (.slice (some ⟨w.heap.size, 0, none⟩) 0 0) by
        subst hl0
        exact ⟨_, 0, w.heap.size, 0, rfl, Nat.le_refl _, by decide, fun h => absurd h (by simp), fun k i h => by simp at h, fun i h => by simp at h⟩)
      clear hl0
      cases oa
      all_goals
        go_wp2_with fail
        go_meet
        exact ⟨HZ.out, B1.out⟩
    · obtain ⟨rfl, hb0⟩ := HR.out.at0 (by rw [HN.out]; omega)
      have O1 : OwnI (w.alloc (.cells #[] 68)) w.heap.size [] (.slice (some ⟨w.heap.size, 0, none⟩) 0 0) :=
        ⟨rfl, .inr ⟨w.heap.size, 0, #[], rfl, Nat.le_refl _, heap_alloc_new w _, Nat.le_refl _, by decide, rfl, rfl⟩⟩
      have HO1 := Lib.hid O1
      have hown : (w.alloc (.cells #[] 68)).ownsRow w.heap.size 68 8 (.slice (some ⟨w.heap.size, 0, none⟩) 0 0) 0 [] := O1
      clear O1
      have hcl := cellsI_len l
      rw [HN.out] at hcl
      have HL := Lib.hid hcl
      clear hcl
      have hone : ∀ u ∈ cellsI l, u.oneCell' = true := by
        intro u hu
        unfold cellsI at hu
        rw [List.mem_flatMap] at hu
        obtain ⟨i, _, hu⟩ := hu
        exact itI_one i u hu
      have HONE := Lib.hid hone
      clear hone
      go_wp2_with (at_builtin; refine wpList_append_lies _ (by rfl) _ _ _ (by rfl) w.heap.size 68 i0 _ 8 88 Tryz.underlying50 hi hz0 hz1 hz2 rfl (by omega) (.slice (some ⟨w.heap.size, 0, none⟩) 0 0) 0 [] (by rfl) hown ⟨b, o, none⟩ len cap (cellsI l) (by rfl) HL.out (rowI_news (HR.out.later ((Below.refl _ _).alloc (Nat.le_refl _) _)) HN.out) HONE.out (by omega) (by unfold maxLen; omega) (by omega) (by simp) (w.heap.size + 1) (by simp) ?_; intro g cap2 w3 hown3 hgrow hat hlt3)
      have R1 := Lib.hid (show OwnI w3 w.heap.size l (.slice (some ⟨g, 0, none⟩) len cap2) by
        unfold OwnI
        rw [HN.out]
        simpa using hown3)
      have R2 := Lib.hid (below_push HO1.out B1.out (Nat.le_refl _) hgrow B1.out.size)
      clear hown hown3 hgrow hat
      go_meet
      exact ⟨R1.out.row HR.out.ok, R2.out⟩
  case rest =>
    obtain ⟨hrow, hbel⟩ := hcut.out
    have HROW := Lib.hid hrow
    have HBEL := Lib.hid hbel
    clear hcut hrow hbel
    go_wp2_with fail
    go_loopw [5, 6] (fun lv iv wr => BothRel (fun k => bothI f l (m.take k)) len' len w lv iv wr) (fun _ iv _ => len' - (intOf iv).toNat)
    case atStart => exact ⟨0, _, Nat.zero_le _, rfl, rfl, by unfold Hid; exact HROW.out, by unfold Hid; show l.length ≤ _; rw [HN.out]; omega, HBEL⟩
    case round =>
      obtain ⟨k, sv, hk, rfl, rfl, HO, HLEN, HB⟩ := hrel
      replace HO := Lib.hid (show Row 8 ic wr (bothI f l (m.take k)) sv from HO.out)
      replace HLEN := Lib.hid (show (bothI f l (m.take k)).length ≤ len + k from HLEN.out)
      by_cases hlt : k < len'
      · obtain ⟨y, hy9⟩ : ∃ y, m[k]? = some y := ⟨_, List.getElem?_eq_getElem (by rw [HN'.out]; omega)⟩
        obtain ⟨rfl, hb0'⟩ := HR'.out.at0 (by rw [HN'.out]; omega)
        have hs := both_take (f := f) (a := l) hy9
        generalize bothI f l (m.take k) = out at *
        have HS := Lib.hid hs
        have HY := Lib.hid hy9
        obtain ⟨oo, co, bo, ofo, rfl, hro⟩ := HO.out
        have HRO := Lib.hid hro
        have GT := Lib.hid (refGet_calls out y.id (.slice oo out.length co) wr ⟨oo, co, bo, ofo, rfl, hro⟩)
        have hol := HLEN.out
        have hoc := hro.len
        have hom := hro.max
        unfold maxLen at hom
        generalize hgg : getI out y.id = g at *
        have HG := Lib.hid hgg
        have d0 := (ic_cells (w := wr) (fun j u hu => (HB.out.cell (p := ⟨b', o' + k * 8 + j, none⟩) hb0').trans (HR'.out.cell k y hy9 j u hu))).1
        have zb := Nat.lt_of_lt_of_le hb0' HB.out.size
        clear hs hy9 hro hgg
        go_wp2_with fail
        refine GT.out.mono ?_
        rintro e w2 ⟨rfl, hb2⟩
        have HB2 := Lib.hid (HB.out.trans (hb2.mono HB.out.size))
        have HRO2 := Lib.hid (HRO.out.later hb2)
        clear hb2 d0
        go_wp2_with fail
        have OH := Lib.hid (Own.new w2 #[.string g.1.id, .int .i64 g.1.r, .int .i64 g.1.c, .int .i64 g.1.st, .string g.1.kd, .int .i64 g.1.num, .complex .f64 g.1.x g.1.y, .bool g.1.d] 68)
        have HB3 := Lib.hid (HB2.out.alloc HB2.out.size (.cells #[.string g.1.id, .int .i64 g.1.r, .int .i64 g.1.c, .int .i64 g.1.st, .string g.1.kd, .int .i64 g.1.num, .complex .f64 g.1.x g.1.y, .bool g.1.d] 68))
        have HRO3 := Lib.hid (HRO2.out.later ((Below.refl _ _).alloc (Nat.le_refl _) (.cells #[.string g.1.id, .int .i64 g.1.r, .int .i64 g.1.c, .int .i64 g.1.st, .string g.1.kd, .int .i64 g.1.num, .complex .f64 g.1.x g.1.y, .bool g.1.d] 68)))
        generalize w2.heap.size = NH at *
        generalize w2.alloc (.cells #[.string g.1.id, .int .i64 g.1.r, .int .i64 g.1.c, .int .i64 g.1.st, .string g.1.kd, .int .i64 g.1.num, .complex .f64 g.1.x g.1.y, .bool g.1.d] 68) = w3 at *
        obtain ⟨d0, d1, d2, d3, d4, d5, d6, d7⟩ := ic_cells (w := w3) (fun j u hu => (HB3.out.cell (p := ⟨b', o' + k * 8 + j, none⟩) hb0').trans (HR'.out.cell k y HY.out j u hu))
        have r0 := fun dd os => cell_regrown d0 dd os
        have r1 := fun dd os => cell_regrown d1 dd os
        have r2 := fun dd os => cell_regrown d2 dd os
        have r3 := fun dd os => cell_regrown d3 dd os
        have r4 := fun dd os => cell_regrown d4 dd os
        have r5 := fun dd os => cell_regrown d5 dd os
        have r6 := fun dd os => cell_regrown d6 dd os
        have r7 := fun dd os => cell_regrown d7 dd os
        have LA := fun dd os o => OH.out.has.regrown dd os o
        have zb3 := Nat.lt_of_lt_of_le hb0' HB3.out.size
        have k0 : (0 : Int) ≤ (k : Int) := by omega
        have k1 : (k : Int) < (len' : Int) := by omega
        clear d0 d1 d2 d3 d4 d5 d6 d7
        have m1 := fun dd os => Lib.hid (Calls.regrown_of (HF y g.1 (Sort.grow (redrawn w3 dd) os)))
        have hsp : (!g.2 || f y g.1) = true → bothI f l (m.take (k + 1)) = putI out y := fun h => by rw [HS.out]; unfold stepI; rw [HG.out, if_pos h]
        have hsk : (!g.2 || f y g.1) = false → bothI f l (m.take (k + 1)) = out := fun h => by rw [HS.out]; unfold stepI; rw [HG.out, if_neg (by rw [h]; simp)]
        have HSP := Lib.hid hsp
        have HSK := Lib.hid hsk
        clear hsp hsk
        generalize f y g.1 = fy at *
        generalize hg2 : g.2 = g2 at *
        have hways : (g2 = false) ∨ (g2 = true ∧ fy = true) ∨ (g2 = true ∧ fy = false) := by cases g2 <;> cases fy <;> simp
        rcases hways with rfl | ⟨rfl, rfl⟩ | ⟨rfl, rfl⟩
        · go_wp2_with fail
          refine wp_region_quiet_below (by kernel_rfl) (by kernel_rfl) ?_
          repeat (first | go_big_quiet_step ((with_reducible exact (m1 _ _).out)) | quiet_step ((with_reducible exact (m1 _ _).out)))
          refine wpQuiet_nil ?_
          intro w7 hw'
          have hb' := Lib.hid (regrown_below hw')
          clear hw'
          clear m1 LA r0 r1 r2 r3 r4 r5 r6 r7
          have HB7 := Lib.hid (HB3.out.trans (hb'.out.mono HB3.out.size))
          have HRO7 := Lib.hid (HRO3.out.later hb'.out)
          have hst := HSP.out rfl
          have HST := Lib.hid hst
          clear hst
          obtain ⟨d0, d1, d2, d3, d4, d5, d6, d7⟩ := ic_cells (w := w7) (fun j u hu => (HB7.out.cell (p := ⟨b', o' + k * 8 + j, none⟩) hb0').trans (HR'.out.cell k y HY.out j u hu))
          have zb7 := Nat.lt_of_lt_of_le hb0' HB7.out.size
          have PT := Lib.hid (refPut_calls out y (.slice oo out.length co) w7 ⟨oo, co, bo, ofo, rfl, HRO7.out⟩ (by omega))
          go_wp2_with fail
          refine PT.out.mono ?_
          rintro e w8 ⟨v8, rfl, ho8, hb8⟩
          have HB8 := Lib.hid (HB7.out.trans (hb8.mono HB7.out.size))
          have HR8 := Lib.hid (ho8.row (fun i hi => by
            rcases put_mem hi with h | h
            · exact HRO7.out.ok i h
            · rw [h]; exact HR'.out.ok y (List.mem_of_getElem? HY.out)))
          clear ho8 hb8
          go_wp2_with fail
          go_roundw
          case rel => exact ⟨k + 1, _, by omega, by go_num, rfl, Lib.hid (by show Row 8 ic w8 (bothI f l (m.take (k + 1))) v8; rw [HST.out]; exact HR8.out), Lib.hid (by show (bothI f l (m.take (k + 1))).length ≤ _; rw [HST.out]; have := putI_len out y; omega), HB8⟩
          case measure => simp [intOf]; omega
        · go_wp2_with fail
          refine wp_region_quiet_below (by kernel_rfl) (by kernel_rfl) ?_
          repeat (first | go_big_quiet_step ((with_reducible exact (m1 _ _).out)) | quiet_step ((with_reducible exact (m1 _ _).out)))
          refine wpQuiet_nil ?_
          intro w7 hw'
          have hb' := Lib.hid (regrown_below hw')
          clear hw'
          clear m1 LA r0 r1 r2 r3 r4 r5 r6 r7
          have HB7 := Lib.hid (HB3.out.trans (hb'.out.mono HB3.out.size))
          have HRO7 := Lib.hid (HRO3.out.later hb'.out)
          have hst := HSP.out rfl
          have HST := Lib.hid hst
          clear hst
          obtain ⟨d0, d1, d2, d3, d4, d5, d6, d7⟩ := ic_cells (w := w7) (fun j u hu => (HB7.out.cell (p := ⟨b', o' + k * 8 + j, none⟩) hb0').trans (HR'.out.cell k y HY.out j u hu))
          have zb7 := Nat.lt_of_lt_of_le hb0' HB7.out.size
          have PT := Lib.hid (refPut_calls out y (.slice oo out.length co) w7 ⟨oo, co, bo, ofo, rfl, HRO7.out⟩ (by omega))
          go_wp2_with fail
          refine PT.out.mono ?_
          rintro e w8 ⟨v8, rfl, ho8, hb8⟩
          have HB8 := Lib.hid (HB7.out.trans (hb8.mono HB7.out.size))
          have HR8 := Lib.hid (ho8.row (fun i hi => by
            rcases put_mem hi with h | h
            · exact HRO7.out.ok i h
            · rw [h]; exact HR'.out.ok y (List.mem_of_getElem? HY.out)))
          clear ho8 hb8
          go_wp2_with fail
          go_roundw
          case rel => exact ⟨k + 1, _, by omega, by go_num, rfl, Lib.hid (by show Row 8 ic w8 (bothI f l (m.take (k + 1))) v8; rw [HST.out]; exact HR8.out), Lib.hid (by show (bothI f l (m.take (k + 1))).length ≤ _; rw [HST.out]; have := putI_len out y; omega), HB8⟩
          case measure => simp [intOf]; omega
        · go_wp2_with fail
          refine wp_region_quiet_below (by kernel_rfl) (by kernel_rfl) ?_
          repeat (first | go_big_quiet_step ((with_reducible exact (m1 _ _).out)) | quiet_step ((with_reducible exact (m1 _ _).out)))
          refine wpQuiet_nil ?_
          intro w7 hw'
          have hb' := Lib.hid (regrown_below hw')
          clear hw'
          clear m1 LA r0 r1 r2 r3 r4 r5 r6 r7
          have HB7 := Lib.hid (HB3.out.trans (hb'.out.mono HB3.out.size))
          have HRO7 := Lib.hid (HRO3.out.later hb'.out)
          have hst := HSK.out rfl
          have HST := Lib.hid hst
          clear hst
          go_wp2_with fail
          go_roundw
          case rel => exact ⟨k + 1, _, by omega, by go_num, rfl, Lib.hid (by show Row 8 ic w7 (bothI f l (m.take (k + 1))) _; rw [HST.out]; exact ⟨oo, co, bo, ofo, rfl, HRO7.out⟩), Lib.hid (by show (bothI f l (m.take (k + 1))).length ≤ _; rw [HST.out]; omega), HB7⟩
          case measure => simp [intOf]; omega
      · have e : len' = k := by omega
        subst e
        have h9 := HO.out
        rw [List.take_of_length_le (by rw [HN'.out]; omega)] at h9
        have H9 := Lib.hid h9
        clear h9
        go_wp2_with fail
        go_ret
        exact ⟨_, rfl, H9.out, HB.out⟩
end Go.Proofs.YthbjgfennclidaaGreat
/- Walks of layer 2: whether an item may be, by the code and by the document's answer; an item out of plain data. -/
namespace Go.Proofs.YthbjgfennclidaaGreat
set_option linter.unusedVariables false
set_option linter.unusedSimpArgs false
set_option maxRecDepth 100000
open Go.RowKit
def mayI (id : ByteArray) (r c st : Int) (kd : ByteArray) (n : Int) (x y : Nat) : Bool :=
  nameB id && (txtB kd && (verB r c && (inB st 1 1000000 && (inB n (-1000000) 1000000 && mayB x y))))
set_option maxHeartbeats 400000 in
theorem itemMay_calls (id : ByteArray) (r c st : Int) (kd : ByteArray) (n : Int) (x y : Nat) (d : Bool) (w : World) :
    Calls Tryz.prog 92 #[itemV id r c st kd n x y d] w fun e w' => e = .returned (.bool (mayI id r c st kd n x y)) ∧ Below w.heap.size w w' := by
  have H1 := fun w => Lib.hid (name_calls id w)
  have H2 := fun w => Lib.hid (text_calls kd w)
  have H3 := fun w => Lib.hid (version_calls r c w)
  have H4 := fun a b c w => Lib.hid (within_calls a b c w)
  have H6 := fun w => Lib.hid (may_calls x y w)
  unfold mayI
  go_enter Tryz.func92, Tryz.ntmps92
  go_wp2_with (first | (go_at_call 142; refine ((H1 _).out).mono ?_; rintro e w' ⟨rfl, rfl⟩) | (go_at_call 143; refine ((H2 _).out).mono ?_; rintro e w' ⟨rfl, rfl⟩) | (go_at_call 144; refine ((H3 _).out).mono ?_; rintro e w' ⟨rfl, hb⟩; obtain ⟨hc, hf⟩ := bcell hb) | (go_at_call 145; refine ((H4 _ _ _ _).out).mono ?_; rintro e w' ⟨rfl, rfl⟩) | (go_at_call 146; refine ((H6 _).out).mono ?_; rintro e w' ⟨rfl, rfl⟩))
  all_goals
    go_ret
    refine ⟨ret_bool (by simp_all), ?_⟩
    first | exact (Below.refl _ _).alloc (Nat.le_refl _) _ | exact below_new hb
end Go.Proofs.YthbjgfennclidaaGreat
/- What is known: how it lies. No walk. -/
namespace Go.Proofs.YthbjgfennclidaaGreat
set_option linter.unusedVariables false
set_option linter.unusedSimpArgs false
set_option maxRecDepth 100000
open Go.RowKit
structure TxAt (w : World) (l : List ByteArray) (oa : Option Addr) (cap b o : Nat) : Prop where
  len : l.length ≤ cap
  max : cap ≤ maxLen
  at0 : 0 < l.length → oa = some ⟨b, o, none⟩ ∧ b < w.heap.size
  cell : ∀ k s, l[k]? = some s → w.cell? ⟨b, o + k, none⟩ = some (.string s)
  ok : ∀ s ∈ l, s.size ≤ maxLen
def TxW (w : World) (l : List ByteArray) (v : Value) : Prop := ∃ oa cap b o, v = .slice oa l.length cap ∧ TxAt w l oa cap b o
theorem posA {α : Type} {l : List α} {k : Nat} {a : α} (h : l[k]? = some a) : k < l.length := (List.getElem?_eq_some_iff.1 h).1
theorem TxAt.later {w w' : World} {l : List ByteArray} {oa : Option Addr} {cap b o B : Nat} (h : TxAt w l oa cap b o) (hb : Below B w w') (hB : w.heap.size ≤ B) : TxAt w' l oa cap b o := by
  refine ⟨h.len, h.max, fun h0 => ⟨(h.at0 h0).1, Nat.lt_of_lt_of_le (h.at0 h0).2 hb.size⟩, fun k s hk => ?_, h.ok⟩
  have hlt : b < w.heap.size := (h.at0 (by have := posA hk; omega)).2
  exact (hb.cell (p := ⟨b, o + k, none⟩) (by show b < B; omega)).trans (h.cell k s hk)
theorem TxW.later {w w' : World} {l : List ByteArray} {v : Value} {B : Nat} (h : TxW w l v) (hb : Below B w w') (hB : w.heap.size ≤ B) : TxW w' l v := by
  obtain ⟨oa, cap, b, o, e, h⟩ := h
  exact ⟨oa, cap, b, o, e, h.later hb hB⟩
theorem TxW.val {w : World} {l : List ByteArray} {v : Value} (h : TxW w l v) : ∃ oa cap, v = .slice oa l.length cap := by
  obtain ⟨oa, cap, _, _, e, _⟩ := h
  exact ⟨oa, cap, e⟩
theorem TxW.ok {w : World} {l : List ByteArray} {v : Value} (h : TxW w l v) : ∀ s ∈ l, s.size ≤ maxLen := by
  obtain ⟨_, _, _, _, _, h⟩ := h
  exact h.ok
abbrev fc (f : Fr) (u : Value) : List Value := [u, .int .i64 (f.v 0), .int .i64 (f.v 1), .int .i64 (f.v 2), .int .i64 (f.v 3), .int .i64 (f.v 4), .int .i64 (f.v 5), .int .i64 (f.v 6), .int .i64 (f.v 7)]
structure FrAt (w : World) (l : List Fr) (U : Nat → Value) (oa : Option Addr) (cap b o : Nat) : Prop where
  len : l.length ≤ cap
  max : cap ≤ maxLen
  at0 : 0 < l.length → oa = some ⟨b, o, none⟩ ∧ b < w.heap.size
  cell : ∀ k f, l[k]? = some f → ∀ j u, (fc f (U k))[j]? = some u → w.cell? ⟨b, o + k * 9 + j, none⟩ = some u
  ids : ∀ k f, l[k]? = some f → TxW w f.ids (U k)
def FrW (w : World) (l : List Fr) (v : Value) : Prop := ∃ U oa cap b o, v = .slice oa l.length cap ∧ FrAt w l U oa cap b o
theorem FrAt.later {w w' : World} {l : List Fr} {U : Nat → Value} {oa : Option Addr} {cap b o B : Nat} (h : FrAt w l U oa cap b o) (hb : Below B w w') (hB : w.heap.size ≤ B) : FrAt w' l U oa cap b o := by
  refine ⟨h.len, h.max, fun h0 => ⟨(h.at0 h0).1, Nat.lt_of_lt_of_le (h.at0 h0).2 hb.size⟩, fun k f hk j u hu => ?_, fun k f hk => (h.ids k f hk).later hb hB⟩
  have hlt : b < w.heap.size := (h.at0 (by have := posA hk; omega)).2
  exact (hb.cell (p := ⟨b, o + k * 9 + j, none⟩) (by show b < B; omega)).trans (h.cell k f hk j u hu)
theorem FrW.later {w w' : World} {l : List Fr} {v : Value} {B : Nat} (h : FrW w l v) (hb : Below B w w') (hB : w.heap.size ≤ B) : FrW w' l v := by
  obtain ⟨U, oa, cap, b, o, e, h⟩ := h
  exact ⟨U, oa, cap, b, o, e, h.later hb hB⟩
theorem FrW.val {w : World} {l : List Fr} {v : Value} (h : FrW w l v) : ∃ oa cap, v = .slice oa l.length cap := by
  obtain ⟨_, oa, cap, _, _, e, _⟩ := h
  exact ⟨oa, cap, e⟩
theorem fc_cells {w : World} {f : Fr} {u : Value} {b o : Nat} (h : ∀ j z, (fc f u)[j]? = some z → w.cell? ⟨b, o + j, none⟩ = some z) :
    w.cell? ⟨b, o, none⟩ = some u ∧ w.cell? ⟨b, o + 1, none⟩ = some (.int .i64 (f.v 0)) ∧ w.cell? ⟨b, o + 2, none⟩ = some (.int .i64 (f.v 1)) ∧ w.cell? ⟨b, o + 3, none⟩ = some (.int .i64 (f.v 2)) ∧ w.cell? ⟨b, o + 4, none⟩ = some (.int .i64 (f.v 3)) ∧ w.cell? ⟨b, o + 5, none⟩ = some (.int .i64 (f.v 4)) ∧ w.cell? ⟨b, o + 6, none⟩ = some (.int .i64 (f.v 5)) ∧ w.cell? ⟨b, o + 7, none⟩ = some (.int .i64 (f.v 6)) ∧ w.cell? ⟨b, o + 8, none⟩ = some (.int .i64 (f.v 7)) :=
  ⟨h 0 _ rfl, h 1 _ rfl, h 2 _ rfl, h 3 _ rfl, h 4 _ rfl, h 5 _ rfl, h 6 _ rfl, h 7 _ rfl, h 8 _ rfl⟩
abbrev knV (A : Nat → Int) (v : Value) : Value := .agg #[.int .i64 (A 0), .int .i64 (A 1), .int .i64 (A 2), .int .i64 (A 3), .int .i64 (A 4), .int .i64 (A 5), .int .i64 (A 6), .int .i64 (A 7), v]
abbrev knA (A : Nat → Int) (v : Value) : Array Value := #[.int .i64 (A 0), .int .i64 (A 1), .int .i64 (A 2), .int .i64 (A 3), .int .i64 (A 4), .int .i64 (A 5), .int .i64 (A 6), .int .i64 (A 7), v]
/-! ### Texts that the call owns -/
def txC (l : List ByteArray) : List Value := l.map .string
def OwnT (w : World) (base : Nat) (l : List ByteArray) (v : Value) : Prop := w.ownsRow base 9 1 v l.length (txC l)
theorem OwnT.nil (w : World) (base : Nat) : OwnT w base [] (.slice none 0 0) := World.ownsRow_nil _ _ _ _
theorem OwnT.later {w w' : World} {base : Nat} {l : List ByteArray} {v : Value} (h : OwnT w base l v) (hb : Below w.heap.size w w') : OwnT w' base l v := ownsRow_below h hb
theorem OwnT.alloc {w : World} {base : Nat} {l : List ByteArray} {v : Value} (h : OwnT w base l v) (o : Obj) : OwnT (w.alloc o) base l v := h.later ((Below.refl _ _).alloc (Nat.le_refl _) _)
theorem OwnT.mono {w : World} {base base' : Nat} {l : List ByteArray} {v : Value} (h : OwnT w base l v) (hb : base' ≤ base) : OwnT w base' l v := by
  obtain ⟨h1, h2⟩ := h
  refine ⟨h1, ?_⟩
  rcases h2 with h2 | ⟨g, cap, cur, hv, hg, r⟩
  · exact .inl h2
  · exact .inr ⟨g, cap, cur, hv, Nat.le_trans hb hg, r⟩
theorem OwnT.val {w : World} {base : Nat} {l : List ByteArray} {v : Value} (h : OwnT w base l v) : ∃ oa cap, v = .slice oa l.length cap := by
  obtain ⟨oa, cap, g, e, _⟩ := row_slice h
  exact ⟨oa, cap, e⟩
theorem OwnT.tx {w : World} {base : Nat} {l : List ByteArray} {v : Value} (h : OwnT w base l v) (hok : ∀ s ∈ l, s.size ≤ maxLen) : TxW w l v := by
  obtain ⟨oa, cap, g, e, h1, h2, hg⟩ := row_slice h
  subst e
  refine ⟨oa, cap, g, 0, rfl, h1, h2, fun h0 => ⟨(hg h0).1, (hg h0).2.2⟩, fun k s hk => ?_, hok⟩
  have hlt := posA hk
  obtain ⟨rfl, _⟩ := hg (by omega)
  unfold OwnT at h
  rw [Nat.zero_add, h.cellAt k (by omega)]
  simp [txC, hk]
theorem newsT {w : World} {s : ByteArray} {t : TypeId} : ∀ j u, ([.string s] : List Value)[j]? = some u → (w.alloc (.cells #[.string s] t)).cell? ((⟨w.heap.size, 0, none⟩ : Addr).add j) = some u :=
  World.news_of_block (cs := #[.string s]) (t := t) (fr := (0, 0)) (heap_alloc_new w _)
theorem oneT (s : ByteArray) : ∀ u ∈ ([.string s] : List Value), u.oneCell' = true := by
  intro u hu; simp at hu; subst hu; rfl
theorem OwnT.push {w : World} {base n g cap : Nat} {l : List ByteArray} {s : ByteArray} (h : w.ownsRow base 9 1 (.slice (some ⟨g, 0, none⟩) n cap) n (txC l ++ [.string s])) (hn : n = l.length + 1) : OwnT w base (l ++ [s]) (.slice (some ⟨g, 0, none⟩) n cap) := by
  unfold OwnT
  rw [List.length_append, txC, List.map_append]
  subst hn
  exact h
theorem below_pushT {w0 w w' : World} {B base : Nat} {l : List ByteArray} {v : Value} (h : OwnT w base l v) (hb : Below B w0 w) (hB : B ≤ base) (hg : w.grownBy w' v.ownBlock) (hsz : B ≤ w.heap.size) : Below B w0 w' :=
  hb.grown hg hsz fun k hk => by have := (World.ownsRow.lt h k hk).1; omega
theorem info_text : (Tryz.prog.info? 9).map (fun i => (i.zero, i.size, i.bytes)) = some (some (.string ⟨#[]⟩), 1, 16) := by kernel_rfl
theorem info_frag : (Tryz.prog.info? 125).map (fun i => (i.zero, i.size, i.bytes)) = some (some (.agg #[.slice none 0 0, .int .i64 0, .int .i64 0, .int .i64 0, .int .i64 0, .int .i64 0, .int .i64 0, .int .i64 0, .int .i64 0]), 9, 88) := by kernel_rfl
theorem takeT {α : Type} {l : List α} {k : Nat} {i : α} (h : l[k]? = some i) : l.take (k + 1) = l.take k ++ [i] := by
  obtain ⟨hk, e⟩ := List.getElem?_eq_some_iff.1 h
  rw [List.take_succ_eq_append_getElem hk, e]
end Go.Proofs.YthbjgfennclidaaGreat
/- Walks of layer 2: whether an item may be, by the document's answer; which one comes behind. -/
namespace Go.Proofs.YthbjgfennclidaaGreat
set_option linter.unusedVariables false
set_option linter.unusedSimpArgs false
set_option maxRecDepth 100000
open Go.RowKit
set_option maxHeartbeats 400000 in
theorem refMay_calls (id : ByteArray) (r c st : Int) (kd : ByteArray) (n : Int) (x y : Nat) (d : Bool) (w : World) (hi : id.size ≤ maxLen) (hk : kd.size ≤ maxLen) :
    Calls Tryz.prog 106 #[itemV id r c st kd n x y d] w fun e w' => e = .returned (.bool (mayI id r c st kd n x y)) ∧ Below w.heap.size w w' := by
  have H1 := fun w => Lib.hid (refName_calls id w hi)
  have H2 := fun w => Lib.hid (refText_calls kd w hk)
  have H3 := fun w => Lib.hid (refVer_calls r c w)
  have H6 := fun w => Lib.hid (place_calls x y w)
  clear hi hk
  unfold mayI inB
  go_enter Tryz.func106, Tryz.ntmps106
  go_wp2_with (first | (go_at_call 49; refine ((H1 _).out).mono ?_; rintro e w' ⟨rfl, rfl⟩) | (go_at_call 158; refine ((H2 _).out).mono ?_; rintro e w' ⟨rfl, rfl⟩) | (go_at_call 50; refine ((H3 _).out).mono ?_; rintro e w' ⟨rfl, hb⟩; obtain ⟨hc, hf⟩ := bcell hb) | (go_at_call 119; refine ((H6 _).out).mono ?_; rintro e w' ⟨rfl, rfl⟩))
  all_goals
    go_ret
    refine ⟨ret_bool ?_, ?_⟩
    · (try simp_all) <;> (try omega)
    · first | exact (Below.refl _ _).alloc (Nat.le_refl _) _ | exact below_new hb
def cmpI (a b : Int) : Int := if a < b then -1 else if b < a then 1 else 0
def orI (a b : Int) : Int := if a = 0 then b else a
def cmpV (st r c st' r' c' : Int) : Int := orI (cmpI st st') (orI (cmpI r r') (cmpI c c'))
set_option maxHeartbeats 400000 in
theorem isNaN_calls (a : Int) (w : World) :
    Calls Tryz.prog 202 #[.int .i64 a] w fun e w' => e = .returned (.bool false) ∧ w = w' := by
  go_enter Tryz.func202, Tryz.ntmps202
  go_wp2
  go_ret
  exact ⟨ret_bool (by simp), rfl⟩
set_option maxHeartbeats 400000 in
theorem cmp_calls (a b : Int) (w : World) :
    Calls Tryz.prog 164 #[.int .i64 a, .int .i64 b] w fun e w' => e = .returned (.int .i64 (cmpI a b)) ∧ w = w' := by
  have H := fun a w => Lib.hid (isNaN_calls a w)
  unfold cmpI
  by_cases h1 : a < b <;> by_cases h2 : b < a <;>
  first | (exfalso; omega) | (
    go_enter Tryz.func164, Tryz.ntmps164
    go_wp2_with (go_at_call 202; refine ((H _ _).out).mono ?_; rintro e w' ⟨rfl, rfl⟩)
    go_ret
    exact ⟨ret_int (by simp [h1, h2]), rfl⟩ )
def OrDone (a b c : Int) (i : Value) : Prop := i = .int .i64 0 ∨ (i = .int .i64 1 ∧ a = 0) ∨ (i = .int .i64 2 ∧ a = 0 ∧ b = 0) ∨ (i = .int .i64 3 ∧ a = 0 ∧ b = 0 ∧ c = 0)
set_option maxHeartbeats 400000 in
theorem or_calls (a b c : Int) (g : Nat) (w : World) (h0 : w.cell? ⟨g, 0, none⟩ = some (.int .i64 a)) (h1 : w.cell? ⟨g, 1, none⟩ = some (.int .i64 b)) (h2 : w.cell? ⟨g, 2, none⟩ = some (.int .i64 c)) :
    Calls Tryz.prog 163 #[.slice (some ⟨g, 0, none⟩) 3 3] w fun e w' => e = .returned (.int .i64 (orI a (orI b c))) ∧ w = w' := by
  go_enter Tryz.func163, Tryz.ntmps163
  go_wp2
  go_loop [5, 8] (fun _ i => OrDone a b c i) (fun _ i => 4 - (intOf i).toNat)
  case atStart => exact .inl rfl
  case round =>
    rcases hrel with rfl | ⟨rfl, h⟩ | ⟨rfl, h, h'⟩ | ⟨rfl, h, h', h''⟩
    · by_cases ha : a = 0
      · have e1 : (a == 0) = true := by simpa using ha
        have e2 : (a != 0) = false := by simpa using ha
        have E := Lib.hid ha
        clear ha
        go_wp2
        go_round
        case rel => exact .inr (.inl ⟨by go_num, E.out⟩)
        case measure => simp [intOf]
      · have e1 : (a == 0) = false := by simpa using ha
        have e2 : (a != 0) = true := by simpa using ha
        have E := Lib.hid ha
        clear ha
        go_wp2
        go_ret
        exact ⟨ret_int (by unfold orI; rw [if_neg E.out]), rfl⟩
    · have H := Lib.hid h
      clear h
      by_cases ha : b = 0
      · have e1 : (b == 0) = true := by simpa using ha
        have e2 : (b != 0) = false := by simpa using ha
        have E := Lib.hid ha
        clear ha
        go_wp2
        go_round
        case rel => exact .inr (.inr (.inl ⟨by go_num, H.out, E.out⟩))
        case measure => simp [intOf]
      · have e1 : (b == 0) = false := by simpa using ha
        have e2 : (b != 0) = true := by simpa using ha
        have E := Lib.hid ha
        clear ha
        go_wp2
        go_ret
        exact ⟨ret_int (by unfold orI; rw [if_pos H.out, if_neg E.out]), rfl⟩
    · have H := Lib.hid h
      have H' := Lib.hid h'
      clear h h'
      by_cases ha : c = 0
      · have e1 : (c == 0) = true := by simpa using ha
        have e2 : (c != 0) = false := by simpa using ha
        have E := Lib.hid ha
        clear ha
        go_wp2
        go_round
        case rel => exact .inr (.inr (.inr ⟨by go_num, H.out, H'.out, E.out⟩))
        case measure => simp [intOf]
      · have e1 : (c == 0) = false := by simpa using ha
        have e2 : (c != 0) = true := by simpa using ha
        clear ha
        go_wp2
        go_ret
        exact ⟨ret_int (by unfold orI; rw [if_pos H.out, if_pos H'.out]), rfl⟩
    · have H := Lib.hid h
      have H' := Lib.hid h'
      have H'' := Lib.hid h''
      clear h h' h''
      go_wp2
      go_ret
      exact ⟨ret_int (by unfold orI; rw [if_pos H.out, if_pos H'.out, H''.out]), rfl⟩
set_option maxHeartbeats 1000000 in
theorem compare_calls (id : ByteArray) (r c st : Int) (kd : ByteArray) (n : Int) (x y : Nat) (d : Bool) (id' : ByteArray) (r' c' st' : Int) (kd' : ByteArray) (n' : Int) (x' y' : Nat) (d' : Bool) (w : World) :
    Calls Tryz.prog 110 #[itemV id r c st kd n x y d, itemV id' r' c' st' kd' n' x' y' d'] w fun e w' => e = .returned (.int .i64 (cmpV st r c st' r' c')) ∧ Below w.heap.size w w' := by
  have H := fun a b w => Lib.hid (cmp_calls a b w)
  have O := fun a b c g w h0 h1 h2 => Lib.hid (or_calls a b c g w h0 h1 h2)
  go_enter Tryz.func110, Tryz.ntmps110
  go_wp2
  refine region_still_tail 19 (by kernel_rfl) (by kernel_rfl) ?_
  simp only [List.take_succ_cons, List.take_zero, List.drop_succ_cons, List.drop_zero]
  repeat (first | still_step | (refine wpStill_step (fun K hK => ?_); go_simp; refine ⟨_, still_of (H _ _ _).out, hK _ ?_⟩; clear hK K))
  refine wpStill_nil ?_
  go_wp2_with fail
  refine (O (cmpI st st') (cmpI r r') (cmpI c c') _ _ ?_ ?_ ?_).out.mono ?_
  rotate_left 3
  · rintro e w' ⟨rfl, rfl⟩
    go_wp2
    go_ret
    exact ⟨rfl, ((((Below.refl _ _).alloc (Nat.le_refl _) _).alloc (by simp) _).alloc (by simp; omega) _).drew⟩
  all_goals go_simp
set_option maxHeartbeats 1000000 in
theorem behind_calls (id : ByteArray) (r c st : Int) (kd : ByteArray) (n : Int) (x y : Nat) (d : Bool) (id' : ByteArray) (r' c' st' : Int) (kd' : ByteArray) (n' : Int) (x' y' : Nat) (d' : Bool) (w : World) :
    Calls Tryz.prog 62 #[itemV id r c st kd n x y d, itemV id' r' c' st' kd' n' x' y' d'] w fun e w' => e = .returned (.bool (decide (cmpV st r c st' r' c' = 1))) ∧ Below w.heap.size w w' := by
  by_cases h1 : st = st'
  · subst h1
    by_cases h2 : r = r'
    · subst h2
      have e : cmpV st r c st r c' = cmpI c c' := by simp [cmpV, orI, cmpI]
      rw [e]
      clear e
      unfold cmpI
      by_cases h3 : c' < c
      · have e : (if c < c' then (-1 : Int) else if c' < c then 1 else 0) = 1 := by rw [if_neg (by omega), if_pos h3]
        rw [e]; clear e
        go_enter Tryz.func62, Tryz.ntmps62
        go_wp2
        go_ret
        exact ⟨by simp, (((Below.refl _ _).alloc (Nat.le_refl _) _).alloc (by simp) _)⟩
      · have e : decide ((if c < c' then (-1 : Int) else if c' < c then 1 else 0) = 1) = false := by rw [if_neg h3]; split <;> simp
        rw [e]; clear e
        go_enter Tryz.func62, Tryz.ntmps62
        go_wp2
        go_ret
        exact ⟨by simp, (((Below.refl _ _).alloc (Nat.le_refl _) _).alloc (by simp) _)⟩
    · have e1 : (r == r') = false := by simpa using h2
      have e2 : (r != r') = true := by simpa using h2
      have e : decide (cmpV st r c st r' c' = 1) = decide (r' < r) := by
        rw [decide_eq_decide]
        simp only [cmpV, orI, cmpI]
        split <;> split <;> (try split) <;> simp_all <;> omega
      rw [e]
      clear e h2
      go_enter Tryz.func62, Tryz.ntmps62
      go_wp2
      go_ret
      exact ⟨by simp, (((Below.refl _ _).alloc (Nat.le_refl _) _).alloc (by simp) _)⟩
  · have e1 : (st == st') = false := by simpa using h1
    have e2 : (st != st') = true := by simpa using h1
    have e : decide (cmpV st r c st' r' c' = 1) = decide (st' < st) := by
      rw [decide_eq_decide]
      simp only [cmpV, orI, cmpI]
      split <;> (try split) <;> simp_all <;> omega
    rw [e]
    clear e h1
    go_enter Tryz.func62, Tryz.ntmps62
    go_wp2
    go_ret
    exact ⟨by simp, (((Below.refl _ _).alloc (Nat.le_refl _) _).alloc (by simp) _)⟩
end Go.Proofs.YthbjgfennclidaaGreat
