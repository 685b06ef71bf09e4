/- Joined: PlSt, RegM, RegD, RefNames, FarA. -/
import Derived.Test.YtjepnaefkfkpcaaJ04
import Derived.OneCell
import Derived.Below
import Derived.Deep.RegionHeld
import Derived.Test.YtjepnaefkfkpcaaJ05
import Derived.Test.YtjepnaefkfkpcaaJ06
/- Pieces that a call owns: a row of pieces, and the rows of their Ids. No walk. -/
namespace Go.Proofs.Ytjepnaefkfkpcaa
set_option linter.unusedVariables false
set_option linter.unusedSimpArgs false
set_option maxRecDepth 100000
open Go.RowKit
def frCs (U : Nat → Value) : Nat → List Fr → List Value
  | _, [] => []
  | s, f :: l => fc f (U s) ++ frCs U (s + 1) l
theorem frCs_len (U : Nat → Value) (s : Nat) (l : List Fr) : (frCs U s l).length = l.length * 9 := by
  induction l generalizing s with
  | nil => rfl
  | cons p l ih => simp only [frCs, List.length_append, ih, List.length_cons, List.length_nil]; omega
theorem frCs_get (U : Nat → Value) (s : Nat) (l : List Fr) (i : Nat) (f : Fr) (hf : l[i]? = some f) (j : Nat) (hj : j < 9) : (frCs U s l)[i * 9 + j]? = (fc f (U (s + i)))[j]? := by
  induction l generalizing s i with
  | nil => simp at hf
  | cons q l ih =>
    cases i with
    | zero =>
      simp at hf; subst hf
      simp only [frCs, Nat.zero_mul, Nat.zero_add, Nat.add_zero]
      rw [List.getElem?_append_left (by simpa using hj)]
    | succ i =>
      simp at hf
      have e : (fc q (U s)).length = 9 := rfl
      rw [frCs, List.getElem?_append_right (by rw [e]; omega), e, show (i + 1) * 9 + j - 9 = i * 9 + j by omega, ih (s + 1) i hf, show s + 1 + i = s + (i + 1) by omega]
theorem frCs_congr {U V : Nat → Value} {s : Nat} {l : List Fr} (h : ∀ i, i < l.length → U (s + i) = V (s + i)) : frCs U s l = frCs V s l := by
  induction l generalizing s with
  | nil => rfl
  | cons p l ih =>
    rw [frCs, frCs, show U s = V s from h 0 (by simp), ih (fun i hi => by have := h (i + 1) (by simp; omega); rwa [show s + (i + 1) = s + 1 + i by omega] at this)]
theorem frCs_app (U : Nat → Value) (s : Nat) (l m : List Fr) : frCs U s (l ++ m) = frCs U s l ++ frCs U (s + l.length) m := by
  induction l generalizing s with
  | nil => simp [frCs]
  | cons p l ih => simp only [List.cons_append, frCs, ih, List.append_assoc, List.length_cons]; rw [show s + 1 + l.length = s + (l.length + 1) by omega]
def updU (U : Nat → Value) (i : Nat) (v : Value) : Nat → Value := fun j => if j = i then v else U j
theorem updU_same (U : Nat → Value) (i : Nat) (v : Value) : updU U i v i = v := by simp [updU]
theorem updU_far (U : Nat → Value) {i j : Nat} (v : Value) (h : j ≠ i) : updU U i v j = U j := by simp [updU, h]
theorem frCs_set (U : Nat → Value) (l : List Fr) : ∀ (s a : Nat) (f f' : Fr) (v : Value), l[a]? = some f → f'.v = f.v → frCs (updU U (s + a) v) s (l.set a f') = (frCs U s l).set (a * 9) v := by
  induction l with
  | nil => intro s a f f' v h; simp at h
  | cons q l ih =>
    intro s a f f' v h hv
    cases a with
    | zero =>
      simp at h; subst h
      rw [List.set_cons_zero, frCs, frCs, Nat.zero_mul, Nat.add_zero, updU_same]
      rw [frCs_congr (U := updU U s v) (V := U) (s := s + 1) (l := l) (fun i _ => updU_far _ _ (by omega))]
      simp [fc, hv]
    | succ a =>
      simp at h
      rw [List.set_cons_succ, frCs, frCs, updU_far _ _ (by omega)]
      have e : (fc q (U s)).length = 9 := rfl
      rw [List.set_append_right _ _ (by rw [e]; omega), e, show (a + 1) * 9 - 9 = a * 9 by omega, ← ih (s + 1) a f f' v h hv, show s + 1 + a = s + (a + 1) by omega]
/-! ### Rows apart by what they hold -/
theorem row_apart {w : World} {base base' n n' size size' : Nat} {e e' : TypeId} {v v' : Value} {xs xs' : List Value} (h : w.ownsRow base e size v n xs) (h' : w.ownsRow base' e' size' v' n' xs') (hne : e ≠ e') : v.ownBlock = none ∨ v.ownBlock ≠ v'.ownBlock := by
  rcases h.2 with ⟨rfl, _⟩ | ⟨g, cap, cur, rfl, _, hg, _⟩
  · exact .inl rfl
  · right
    rcases h'.2 with ⟨rfl, _⟩ | ⟨g', cap', cur', rfl, _, hg', _⟩
    · simp [Value.ownBlock]
    · simp only [Value.ownBlock, ne_eq, Option.some.injEq]
      intro e; subst e
      rw [hg] at hg'
      simp only [Option.some.injEq, Obj.cells.injEq] at hg'
      exact hne hg'.2.1
theorem row_set {w : World} {base n size g cap o : Nat} {e : TypeId} {xs : List Value} (h : w.ownsRow base e size (.slice (some ⟨g, 0, none⟩) n cap) n xs) (v : Value) (ho : o < n * size) : (w.setCell ⟨g, o, none⟩ v).ownsRow base e size (.slice (some ⟨g, 0, none⟩) n cap) n (xs.set o v) := by
  obtain ⟨h1, h2⟩ := h
  refine ⟨by rw [List.length_set]; exact h1, ?_⟩
  rcases h2 with ⟨h2, _⟩ | ⟨g', cap', cur, hv, hg, hh, h3, h4, h5, h6⟩
  · cases h2
  · cases hv
    refine .inr ⟨g, cap, cur.setIfInBounds o v, rfl, hg, ?_, h3, h4, by simpa using h5, ?_⟩
    · simp only [World.setCell, Array.getElem?_modify, if_true]
      rw [hh]; simp
    · rw [← h6, Array.toList_setIfInBounds, List.take_set]
theorem row_free {w : World} {base n n' size g cap : Nat} {e : TypeId} {xs : List Value} (h : w.ownsRow base e size (.slice (some ⟨g, 0, none⟩) n' cap) n xs) (o : Nat) : w.frozen? ⟨g, o, none⟩ = false := by
  rcases h.2 with ⟨h2, _⟩ | ⟨g', cap', cur, hv, hg, hh, _⟩
  · cases h2
  · cases hv
    simp [World.frozen?, hh]
structure PK (w : World) (base : Nat) (o : List Fr) (U : Nat → Value) (Lv : Value) : Prop where
  row : w.ownsRow base 88 9 Lv o.length (frCs U 0 o)
  ids : ∀ i f, o[i]? = some f → OwnT w base f.ids (U i)
  apart : ∀ i j, i < o.length → j < o.length → i ≠ j → (U i).ownBlock = none ∨ (U i).ownBlock ≠ (U j).ownBlock
theorem PK.nil (w : World) (base : Nat) (U : Nat → Value) : PK w base [] U (.slice none 0 0) :=
  ⟨World.ownsRow_nil _ _ _ _, fun i f h => by simp at h, fun i j h => absurd h (by simp)⟩
theorem PK.later {w w' : World} {base : Nat} {o : List Fr} {U : Nat → Value} {Lv : Value} (h : PK w base o U Lv) (hb : Below w.heap.size w w') : PK w' base o U Lv :=
  ⟨ownsRow_below h.row hb, fun i f hf => (h.ids i f hf).later hb, h.apart⟩
theorem PK.setLow {w : World} {base : Nat} {o : List Fr} {U : Nat → Value} {Lv : Value} (h : PK w base o U Lv) {a : Addr} (ha : a.block < base) (u : Value) : PK (w.setCell a u) base o U Lv :=
  ⟨ownsRow_setCell_below h.row ha u, fun i f hf => ownsRow_setCell_below (h.ids i f hf) ha u, h.apart⟩
theorem ft_ne : 9 ≠ 88 := by decide
theorem PK.at {w : World} {base : Nat} {o : List Fr} {U : Nat → Value} {g n cap : Nat} (h : PK w base o U (.slice (some ⟨g, 0, none⟩) n cap)) {k : Nat} {f : Fr} (hf : o[k]? = some f) : ∀ j u, (fc f (U k))[j]? = some u → w.cell? ⟨g, k * 9 + j, none⟩ = some u := by
  intro j u hu
  have hj : j < 9 := (List.getElem?_eq_some_iff.1 hu).1
  have hk := posA hf
  have hn : n = o.length := by
    obtain ⟨oa, cap', g', e, _⟩ := row_slice h.row
    cases e; rfl
  subst hn
  rw [h.row.cellAt (k * 9 + j) (by omega), frCs_get _ _ _ _ _ hf _ hj, Nat.zero_add]
  exact hu
theorem PK.fr {w : World} {base : Nat} {o : List Fr} {U : Nat → Value} {Lv : Value} (h : PK w base o U Lv) (hok : ∀ f ∈ o, ∀ s ∈ f.ids, s.size ≤ maxLen) : FrW w o Lv := by
  obtain ⟨oa, cap, g, e, h1, h2, hg⟩ := row_slice h.row
  subst e
  refine ⟨U, oa, cap, g, 0, rfl, h1, h2, fun h0 => ⟨(hg h0).1, (hg h0).2.2⟩, fun k f hf j u hu => ?_, fun k f hf => (h.ids k f hf).tx (hok f (List.mem_of_getElem? hf))⟩
  obtain ⟨rfl, _⟩ := hg (by have := posA hf; omega)
  rw [Nat.zero_add]
  exact h.at hf j u hu
def FrFresh (w : World) (B : Nat) (l : List Fr) (v : Value) : Prop := ∀ w' : World, (∀ b, B ≤ b → b < w.heap.size → w'.heap[b]? = w.heap[b]?) → w.heap.size ≤ w'.heap.size → FrW w' l v
theorem FrFresh.fr {w : World} {B : Nat} {l : List Fr} {v : Value} (h : FrFresh w B l v) : FrW w l v := h w (fun _ _ _ => rfl) (Nat.le_refl _)
theorem FrFresh.mono {w : World} {B B' : Nat} {l : List Fr} {v : Value} (h : FrFresh w B l v) (hB : B' ≤ B) : FrFresh w B' l v := fun w' h1 h2 => h w' (fun b h3 h4 => h1 b (by omega) h4) h2
theorem FrFresh.setLow {w : World} {B : Nat} {l : List Fr} {v : Value} (h : FrFresh w B l v) {a : Addr} (ha : a.block < B) (u : Value) : FrFresh (w.setCell a u) B l v := fun w' h1 h2 =>
  have hs : (w.setCell a u).heap.size = w.heap.size := by simp [World.setCell]
  h w' (fun b h3 h4 => (h1 b h3 (by omega)).trans (Below.heap_setCell _ _ _ _ (by omega))) (by omega)
theorem PK.kept {w w' : World} {base : Nat} {o : List Fr} {U : Nat → Value} {Lv : Value} (h : PK w base o U Lv) (hb : ∀ b, base ≤ b → b < w.heap.size → w'.heap[b]? = w.heap[b]?) : PK w' base o U Lv := by
  have hk : ∀ {e : TypeId} {size n : Nat} {v : Value} {xs : List Value}, w.ownsRow base e size v n xs → w'.ownsRow base e size v n xs := by
    intro e size n v xs hr
    obtain ⟨h1, h2⟩ := hr
    refine ⟨h1, ?_⟩
    rcases h2 with h2 | ⟨g, cap, cur, hv, hg, hh, r⟩
    · exact .inl h2
    · have hlt : g < w.heap.size := (World.ownsRow.lt (⟨h1, .inr ⟨g, cap, cur, hv, hg, hh, r⟩⟩ : w.ownsRow base e size v n xs) g (by rw [hv]; rfl)).2
      exact .inr ⟨g, cap, cur, hv, hg, by rw [hb g hg hlt]; exact hh, r⟩
  exact ⟨hk h.row, fun i f hf => hk (h.ids i f hf), h.apart⟩
theorem PK.fresh {w : World} {base B : Nat} {o : List Fr} {U : Nat → Value} {Lv : Value} (h : PK w base o U Lv) (hB : B ≤ base) (hok : ∀ f ∈ o, ∀ s ∈ f.ids, s.size ≤ maxLen) : FrFresh w B o Lv :=
  fun w' h1 _ => (h.kept fun b h3 h4 => h1 b (by omega) h4).fr hok
theorem PK.pushF {w w' : World} {base : Nat} {o : List Fr} {U : Nat → Value} {Lv : Value} (h : PK w base o U Lv) (v : Nat → Int) {g n cap : Nat} (hn : n = o.length + 1)
    (hown : w'.ownsRow base 88 9 (.slice (some ⟨g, 0, none⟩) n cap) n (frCs U 0 o ++ fc ⟨[], v⟩ (.slice none 0 0))) (hgrow : w.grownBy w' Lv.ownBlock) :
    PK w' base (o ++ [⟨[], v⟩]) (updU U o.length (.slice none 0 0)) (.slice (some ⟨g, 0, none⟩) n cap) := by
  subst hn
  refine ⟨?_, fun i f hf => ?_, fun i j hi hj hij => ?_⟩
  · rw [List.length_append, frCs_app, Nat.zero_add, frCs, frCs, List.append_nil, updU_same]
    rw [frCs_congr (U := updU U o.length (.slice none 0 0)) (V := U) (s := 0) (l := o) (fun i hi => updU_far _ _ (by omega))]
    exact hown
  · by_cases e : i = o.length
    · subst e
      rw [List.getElem?_append_right (Nat.le_refl _), Nat.sub_self] at hf
      simp at hf; subst hf
      rw [updU_same]; exact OwnT.nil _ _
    · have hi : i < o.length := by have := posA hf; simp at this; omega
      rw [List.getElem?_append_left hi] at hf
      rw [updU_far _ _ e]
      exact World.ownsRow.kept (h.ids i f hf) hgrow (row_apart (h.ids i f hf) h.row ft_ne)
  · simp only [List.length_append, List.length_cons, List.length_nil] at hi hj
    by_cases e : i = o.length
    · subst e; rw [updU_same]; exact .inl rfl
    · rw [updU_far _ _ e]
      by_cases e' : j = o.length
      · subst e'; rw [updU_same]
        cases hq : (U i).ownBlock with
        | none => exact .inl rfl
        | some b => exact .inr (by simp [Value.ownBlock])
      · rw [updU_far _ _ e']; exact h.apart i j (by omega) (by omega) hij
theorem PK.pushT {w w' : World} {base : Nat} {o : List Fr} {U : Nat → Value} {gl nl cl : Nat} (h : PK w base o U (.slice (some ⟨gl, 0, none⟩) nl cl)) {a : Nat} {f : Fr} (hf : o[a]? = some f) (s : ByteArray) {g n cap : Nat} (hn : n = f.ids.length + 1)
    (hown : w'.ownsRow base 9 1 (.slice (some ⟨g, 0, none⟩) n cap) n (txC f.ids ++ [.string s])) (hgrow : w.grownBy w' (U a).ownBlock) (hat : (U a).ownBlock = some g ∨ g = w.heap.size) :
    PK (w'.setCell ⟨gl, a * 9, none⟩ (.slice (some ⟨g, 0, none⟩) n cap)) base (o.set a ⟨f.ids ++ [s], f.v⟩) (updU U a (.slice (some ⟨g, 0, none⟩) n cap)) (.slice (some ⟨gl, 0, none⟩) nl cl) := by
  have ha := posA hf
  have hrow' : w'.ownsRow base 88 9 (.slice (some ⟨gl, 0, none⟩) nl cl) o.length (frCs U 0 o) := World.ownsRow.kept h.row hgrow (row_apart h.row (h.ids a f hf) (fun e => ft_ne e.symm))
  have hnl : nl = o.length := by
    obtain ⟨oa, cap', g', e, _⟩ := row_slice h.row
    cases e; rfl
  subst hnl
  have hgl : ∀ {v : Value} {n : Nat} {xs : List Value}, w'.ownsRow base 9 1 v n xs → v.ownBlock ≠ some gl := by
    intro v n xs hv e
    rcases row_apart hv hrow' ft_ne with h1 | h1
    · rw [h1] at e; cases e
    · exact h1 (by rw [e]; rfl)
  have hne : ∀ j, j < o.length → j ≠ a → (U j).ownBlock ≠ some g := by
    intro j hj hja e
    rcases hat with h1 | h1
    · rcases h.apart j a hj ha hja with h2 | h2
      · rw [h2] at e; cases e
      · exact h2 (by rw [e, h1])
    · obtain ⟨fj, hfj⟩ : ∃ fj, o[j]? = some fj := ⟨_, List.getElem?_eq_getElem hj⟩
      have := (World.ownsRow.lt (h.ids j fj hfj) g e).2
      omega
  refine ⟨?_, fun i f' hf' => ?_, fun i j hi hj hij => ?_⟩
  · rw [List.length_set]
    have e := frCs_set U o 0 a f ⟨f.ids ++ [s], f.v⟩ (.slice (some ⟨g, 0, none⟩) n cap) hf rfl
    rw [Nat.zero_add] at e
    rw [e]
    exact row_set hrow' _ (by omega)
  · by_cases e : i = a
    · subst e
      rw [List.getElem?_set_self (by exact ha)] at hf'
      simp at hf'; subst hf'
      rw [updU_same]
      refine ownsRow_setCell_other (OwnT.push hown hn) ?_ _
      exact hgl hown
    · rw [List.getElem?_set_ne (fun e' => e e'.symm)] at hf'
      rw [updU_far _ _ e]
      have hi := posA hf'
      have hk : OwnT w' base f'.ids (U i) := World.ownsRow.kept (h.ids i f' hf') hgrow (h.apart i a hi ha e)
      exact ownsRow_setCell_other hk (hgl hk) _
  · rw [List.length_set] at hi hj
    by_cases e : i = a
    · subst e
      rw [updU_same, updU_far _ _ (fun e => hij e.symm)]
      exact .inr fun e => hne j hj (fun e' => hij e'.symm) (by rw [← e]; rfl)
    · rw [updU_far _ _ e]
      by_cases e' : j = a
      · subst e'
        rw [updU_same]
        exact .inr fun e2 => hne i hi e (by rw [e2]; rfl)
      · rw [updU_far _ _ e']; exact h.apart i j hi hj hij
end Go.Proofs.Ytjepnaefkfkpcaa
/- Drawn regions none of whose operations turns what was there: what reads alone what stays may be taken first, wherever it was made. No walk. -/
namespace Go.Proofs.Ytjepnaefkfkpcaa
set_option linter.unusedVariables false
set_option linter.unusedSimpArgs false
set_option maxRecDepth 100000
open Go Go.RowKit
section
variable {P : Program} {ops : Array Oper} {Q : Exit → Act → World → Prop} {md : Region.Mode}
abbrev Later (w w' : World) : Prop := Below w.heap.size w w'
theorem Later.on {a b c : World} (h1 : Later a b) (h2 : Later b c) : Later a c := h1.trans (h2.mono h1.size)
structure Reads (w w' : World) : Prop where
  size : w.heap.size ≤ w'.heap.size
  cell : ∀ a : Addr, a.block < w.heap.size → w'.cell? a = w.cell? a
theorem Reads.of {w w' : World} (h : Later w w') : Reads w w' := ⟨h.size, fun a ha => h.cell (p := a) ha⟩
variable {R : World → World → Prop}
end
end Go.Proofs.Ytjepnaefkfkpcaa
/- Drawn regions whose last operations store where others loaded: the condition on the world is asked for behind those operations alone that do not wait for all loads. No walk. -/
namespace Go.Proofs.Ytjepnaefkfkpcaa
set_option linter.unusedVariables false
set_option linter.unusedSimpArgs false
set_option maxRecDepth 100000
open Go
section
variable {P : Program} {ops : Array Oper} {Q : Exit → Act → World → Prop} {md : Region.Mode} {S : World → Prop} {D : Nat → Bool}
def late (P : Program) (md : Region.Mode) (ops : Array Oper) (Q : Exit → Act → World → Prop) (S : World → Prop) (D : Nat → Bool) (fuel : Nat) (listed : Array Bool) (a : Act) (w : World) : Prop :=
  match fuel with
  | 0 => Region.ready md ops listed = [] ∧ Q .normal a w
  | n + 1 => (Region.ready md ops listed = [] → Q .normal a w) ∧ ∀ i ∈ Region.ready md ops listed,
      wpOp P ops Q i (fun a' w' => (D i = false → S w') ∧ late P md ops Q S D n (listed.setIfInBounds i true) a' w') a w
def waitB (md : Region.Mode) (ops : Array Oper) (D : Nat → Bool) (i : Nat) : Bool :=
  (List.range ops.size).all fun j => !D j || (match ops[j]? with | some oj => oj.after.any (fun e => Region.binds md e && e.on == i) | none => true)
theorem wait_of {i j : Nat} {oj : Oper} {l : Array Bool} (h : waitB md ops D i = true) (hj : j ∈ Region.ready md ops l) (hoj : ops[j]? = some oj) (hi : l.getD i true = false) : D j = false := by
  cases hd : D j with
  | false => rfl
  | true =>
    exfalso
    have h1 := List.all_eq_true.1 h j (List.mem_range.2 (Array.getElem?_eq_some_iff.1 hoj).1)
    simp only [hd, hoj, Bool.not_true, Bool.false_or] at h1
    obtain ⟨e, he, hb⟩ := Array.any_eq_true'.1 h1
    simp only [Bool.and_eq_true, beq_iff_eq] at hb
    obtain ⟨_, o, ho, hall⟩ := mem_ready.1 hj
    rw [hoj] at ho
    cases ho
    have h2 := hall e he hb.1
    rw [hb.2] at h2
    rcases Nat.lt_or_ge i l.size with hl | hl
    · simp [hl] at hi h2; rw [hi] at h2; cases h2
    · simp [Array.getElem?_eq_none hl] at hi
end
end Go.Proofs.Ytjepnaefkfkpcaa
/- What is known: the document's Names, walked. -/
namespace Go.Proofs.Ytjepnaefkfkpcaa
set_option linter.unusedVariables false
set_option linter.unusedSimpArgs false
set_option maxRecDepth 100000
open Go.RowKit
def NmRel (F : Nat → List ByteArray) (len : Nat) (X : Array Value) (w : World) (lv iv : Value) (wr : World) : Prop :=
  ∃ (k : Nat) (sv : Value), k ≤ len ∧ iv = .int .i64 k ∧ sv = lv ∧ Hid (OwnT wr w.heap.size (insAll (F k)) sv) ∧ Hid (Has wr w.heap.size X) ∧ Hid (Below w.heap.size w wr)
theorem flat_snoc {l : List Fr} {k : Nat} {f : Fr} (h : l[k]? = some f) : flatI (l.take (k + 1)) = flatI (l.take k) ++ f.ids := by
  unfold flatI; rw [takeT h, List.flatMap_append]; simp
theorem flat_take_sub {l : List Fr} {k : Nat} {s : ByteArray} (h : s ∈ flatI (l.take k)) : s ∈ flatI l := by
  unfold flatI at *
  rw [List.mem_flatMap] at *
  obtain ⟨f, hf, hs⟩ := h
  exact ⟨f, List.mem_of_mem_take hf, hs⟩
theorem flat_len {l : List Fr} {k : Nat} : (flatI (l.take k)).length ≤ (flatI l).length := by
  have h : flatI l = flatI (l.take k) ++ flatI (l.drop k) := by unfold flatI; rw [← List.flatMap_append, List.take_append_drop]
  rw [h, List.length_append]; omega
theorem fr_ok {w : World} {l : List Fr} {U : Nat → Value} {oa : Option Addr} {cap b o : Nat} (h : FrAt w l U oa cap b o) : ∀ s ∈ flatI l, s.size ≤ maxLen := by
  intro s hs
  unfold flatI at hs
  rw [List.mem_flatMap] at hs
  obtain ⟨f, hf, hs⟩ := hs
  obtain ⟨k, hk, e⟩ := List.mem_iff_getElem.1 hf
  exact (h.ids k f (by rw [List.getElem?_eq_getElem hk, e])).ok s hs
set_option maxRecDepth 100000 in
set_option maxHeartbeats 4000000 in
theorem names_calls (l : List Fr) (A : Nat → Int) (v : Value) (w : World) (hR : FrW w l v) (hlen : (flatI l).length ≤ 10000) :
    Calls Try.prog 52 #[knV A v] w fun e w' => ∃ v', e = .returned v' ∧ OwnT w' w.heap.size (insAll (flatI l)) v' ∧ Below w.heap.size w w' := by
  obtain ⟨U, oa, cap, b, o, rfl, hr⟩ := hR
  have HR := Lib.hid hr
  have HOK := Lib.hid (fr_ok hr)
  have hcap := hr.len
  have hmax := hr.max
  unfold maxLen at hmax
  clear hr
  have HFL := Lib.hid hlen
  clear hlen
  generalize hn : l.length = len at *
  have HN := Lib.hid hn
  clear hn
  go_enter Try.func52, Try.ntmps52
  go_wp2_with fail
  go_loopw [3, 4] (fun lv iv wr => NmRel (fun k => flatI (l.take k)) len (knA A (.slice oa len cap)) w lv iv wr) (fun _ iv _ => len - (intOf iv).toNat)
  case atStart => exact ⟨0, _, Nat.zero_le _, rfl, rfl, by unfold Hid; exact OwnT.nil _ _, by unfold Hid; exact Has.new _ _ _, by unfold Hid; exact (Below.refl _ _).alloc (Nat.le_refl _) _⟩
  case round =>
    obtain ⟨k, sv, hk, rfl, rfl, HO, HX, HB⟩ := hrel
    replace HO := Lib.hid (show OwnT wr w.heap.size (insAll (flatI (l.take k))) sv from HO.out)
    have l1 := HX.out.cell
    have z1 := HX.out.lt
    by_cases hlt : k < len
    · obtain ⟨f, hf⟩ : ∃ f, l[k]? = some f := ⟨_, List.getElem?_eq_getElem (by rw [HN.out]; exact hlt)⟩
      obtain ⟨rfl, hb0⟩ := HR.out.at0 (by rw [HN.out]; omega)
      obtain ⟨ou, cu, bu, oo, hu, ht⟩ := HR.out.ids k f hf
      obtain ⟨c0, _⟩ := fc_cells (w := wr) (fun j z hz => (HB.out.cell (p := ⟨b, o + k * 9 + j, none⟩) hb0).trans (HR.out.cell k f hf j z hz))
      rw [hu] at c0
      have hcu := ht.len
      have hmu := ht.max
      unfold maxLen at hmu
      have HT := Lib.hid ht
      have HF := Lib.hid hf
      have HU := Lib.hid hu
      clear ht hf hu
      generalize hn2 : f.ids.length = nf at *
      have HNF := Lib.hid hn2
      clear hn2
      have zb := Nat.lt_of_lt_of_le hb0 HB.out.size
      go_wp2_with fail
      clear l1 z1 c0 zb
      go_loopw [3, 5] (fun lv iv wr => NmRel (fun j => flatI (l.take k) ++ f.ids.take j) nf (knA A (.slice (some ⟨b, o, none⟩) len cap)) w lv iv wr) (fun _ iv _ => nf - (intOf iv).toNat)
      case atStart => exact ⟨0, _, Nat.zero_le _, rfl, rfl, by unfold Hid; simp only [List.take_zero, List.append_nil]; exact HO.out, HX, HB⟩
      case round =>
        clear HO HX HB
        obtain ⟨j, sv, hj, rfl, rfl, HO, HX, HB⟩ := hrel
        replace HO := Lib.hid (show OwnT wr w.heap.size (insAll (flatI (l.take k) ++ f.ids.take j)) sv from HO.out)
        have l1 := HX.out.cell
        have z1 := HX.out.lt
        obtain ⟨c0, _⟩ := fc_cells (w := wr) (fun j z hz => (HB.out.cell (p := ⟨b, o + k * 9 + j, none⟩) hb0).trans (HR.out.cell k f HF.out j z hz))
        rw [HU.out] at c0
        have zb := Nat.lt_of_lt_of_le hb0 HB.out.size
        by_cases hjt : j < nf
        · obtain ⟨s, hs⟩ : ∃ s, f.ids[j]? = some s := ⟨_, List.getElem?_eq_getElem (by rw [HNF.out]; exact hjt)⟩
          obtain ⟨rfl, hb1⟩ := HT.out.at0 (by rw [HNF.out]; omega)
          have d0 := (HB.out.cell (p := ⟨bu, oo + j, none⟩) hb1).trans (HT.out.cell j s hs)
          have zu := Nat.lt_of_lt_of_le hb1 HB.out.size
          have hsub : ∀ x ∈ flatI (l.take k) ++ f.ids.take j, x ∈ flatI l := by
            intro x hx
            rcases List.mem_append.1 hx with hx | hx
            · exact flat_take_sub hx
            · unfold flatI; rw [List.mem_flatMap]; exact ⟨f, List.mem_of_getElem? HF.out, List.mem_of_mem_take hx⟩
          have hle : (insAll (flatI (l.take k) ++ f.ids.take j)).length ≤ 10000 := by
            have h1 := len_all (flatI (l.take k) ++ f.ids.take j)
            have h2 := flat_len (l := l) (k := k + 1)
            rw [flat_snoc HF.out] at h2
            have h3 := HFL.out
            simp only [List.length_append, List.length_take] at h1 h2
            omega
          have C := Lib.hid (insert_calls _ s sv wr (HO.out.tx fun x hx => HOK.out x (hsub x (mem_all.1 hx))) hle)
          have HS := Lib.hid (show insAll (flatI (l.take k) ++ f.ids.take (j + 1)) = insB (insAll (flatI (l.take k) ++ f.ids.take j)) s by rw [takeT hs, ← List.append_assoc, insAll_snoc])
          clear hs hsub hle
          go_wp2_with (go_at_call 62; refine C.out.mono ?_; rintro e w2 ⟨v2, rfl, ho2, hb2⟩)
          have HO2 := Lib.hid (ho2.mono (base' := w.heap.size) HB.out.size)
          have HX2 := Lib.hid (HX.out.below hb2 HX.out.lt)
          have HB2 := Lib.hid (HB.out.trans (hb2.mono HB.out.size))
          clear ho2 hb2
          go_roundw
          case rel => exact ⟨j + 1, _, by omega, by go_num, rfl, Lib.hid (by show OwnT _ _ (insAll (flatI (l.take k) ++ f.ids.take (j + 1))) _; rw [HS.out]; exact HO2.out), HX2, HB2⟩
          case measure => simp [intOf]; omega
        · have e : nf = j := by omega
          have h1 := HO.out
          rw [show f.ids.take j = f.ids from List.take_of_length_le (by rw [HNF.out]; omega), ← flat_snoc HF.out] at h1
          have HO := Lib.hid h1
          clear h1
          go_wp2_with fail
          go_roundw
          case rel => exact ⟨k + 1, _, by omega, by go_num, rfl, HO, HX, HB⟩
          case measure => simp [intOf]; omega
    · have e : len = k := by omega
      have h1 := HO.out
      rw [List.take_of_length_le (by rw [HN.out]; omega)] at h1
      have HO := Lib.hid h1
      clear h1
      go_wp2_with fail
      go_ret
      exact ⟨_, rfl, HO.out, HB.out⟩
end Go.Proofs.Ytjepnaefkfkpcaa
/- How far two places are apart: the document's answer, walked. -/
namespace Go.Proofs.Ytjepnaefkfkpcaa
set_option linter.unusedVariables false
set_option linter.unusedSimpArgs false
set_option maxRecDepth 100000
open Go.RowKit
set_option maxHeartbeats 1000000 in
theorem refFar_calls (a b c d : Nat) (w : World) :
    Calls Try.prog 56 #[.complex .f64 a b, .complex .f64 c d] w fun e w' => e = .returned (.int .i64 (farV a b c d)) ∧ w = w' := by
  unfold farV
  have H1 := Lib.hid (place_calls a b w)
  have H2 := Lib.hid (place_calls c d w)
  cases h1 : mayB a b
  · have h1' := Lib.hid h1
    clear h1
    generalize mayB c d = q at *
    go_enter Try.func56, Try.ntmps56
    go_wp2_with fail
    refine ((H1).out).mono ?_
    rw [h1'.out]; rintro e w' ⟨rfl, rfl⟩
    go_wp2_with fail
    refine ((H2).out).mono ?_
    rintro e w' ⟨rfl, rfl⟩
    go_wp2
    go_ret
    exact ⟨rfl, rfl⟩
  · cases h2 : mayB c d
    · have h1' := Lib.hid h1
      have h2' := Lib.hid h2
      clear h1 h2
      go_enter Try.func56, Try.ntmps56
      go_wp2_with fail
      refine ((H1).out).mono ?_
      rw [h1'.out]; rintro e w' ⟨rfl, rfl⟩
      go_wp2_with fail
      refine ((H2).out).mono ?_
      rw [h2'.out]; rintro e w' ⟨rfl, rfl⟩
      go_wp2
      go_ret
      exact ⟨rfl, rfl⟩
    · obtain ⟨ia, ib, ba, bb⟩ := may_parts h1
      obtain ⟨ic, id, bc, bd⟩ := may_parts h2
      have k1 := run_convert_float_int (P := Try.prog) w 22 3 .f64 .i64 a _ (by kernel_rfl) (by kernel_rfl) (Fl.toIntVal_int ia (by omega))
      have k2 := run_convert_float_int (P := Try.prog) w 22 3 .f64 .i64 b _ (by kernel_rfl) (by kernel_rfl) (Fl.toIntVal_int ib (by omega))
      have k3 := run_convert_float_int (P := Try.prog) w 22 3 .f64 .i64 c _ (by kernel_rfl) (by kernel_rfl) (Fl.toIntVal_int ic (by omega))
      have k4 := run_convert_float_int (P := Try.prog) w 22 3 .f64 .i64 d _ (by kernel_rfl) (by kernel_rfl) (Fl.toIntVal_int id (by omega))
      simp only [Bool.and_self, if_true]
      clear ia ib ic id
      generalize Fl.iv a = x at *
      generalize Fl.iv b = y at *
      generalize Fl.iv c = z at *
      generalize Fl.iv d = u at *
      have hp1 : -2000 ≤ x - z := by omega
      have hp2 : x - z ≤ 2000 := by omega
      have hq1 : -2000 ≤ y - u := by omega
      have hq2 : y - u ≤ 2000 := by omega
      obtain ⟨sp1, sp2⟩ := sq_bd hp1 hp2
      obtain ⟨sq1, sq2⟩ := sq_bd hq1 hq2
      have x1 : -1000 ≤ x := by omega
      have x2 : x ≤ 1000 := by omega
      have y1 : -1000 ≤ y := by omega
      have y2 : y ≤ 1000 := by omega
      have z1 : -1000 ≤ z := by omega
      have z2 : z ≤ 1000 := by omega
      have u1 : -1000 ≤ u := by omega
      have u2 : u ≤ 1000 := by omega
      clear ba bb bc bd
      have h1' := Lib.hid h1
      have h2' := Lib.hid h2
      clear h1 h2
      go_enter Try.func56, Try.ntmps56
      go_wp2_with fail
      refine ((H1).out).mono ?_
      rw [h1'.out]; rintro e w' ⟨rfl, rfl⟩
      go_wp2_with fail
      refine ((H2).out).mono ?_
      rw [h2'.out]; rintro e w' ⟨rfl, rfl⟩
      go_wp2
      go_ret
      exact ⟨rfl, rfl⟩
end Go.Proofs.Ytjepnaefkfkpcaa
