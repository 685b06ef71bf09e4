/- Joined: ListM, RefBey, FarA, PlainM, ItemEq. -/
import Derived.Test.YthbjgfennclidaaGreatJ06
import Derived.Test.YthbjgfennclidaaGreatJ08
import Derived.Test.YthbjgfennclidaaGreatJ07
import Derived.Test.YthbjgfennclidaaGreatJ02
import Derived.Laws.StructEq
import Derived.Laws.Cover2
/- Lists of items that rise: plain mathematics. No walk. -/
namespace Go.Proofs.YthbjgfennclidaaGreat
set_option linter.unusedVariables false
set_option linter.unusedSimpArgs false
set_option maxRecDepth 100000
open Go.RowKit
theorem up_eq (a b : Itm) : upB a b = lsB a.id b.id := by
  have h := gt_eq b.id a.id
  unfold gtB at h
  exact h
theorem rises_rise : ∀ {l : List Itm}, risesB l = true ↔ Rise (l.map (·.id))
  | [] => by simp [risesB, Rise]
  | [a] => by simp [risesB, Rise]
  | a :: b :: l => by
    rw [risesB, Bool.and_eq_true, rises_rise (l := b :: l), up_eq]
    have e : (a :: b :: l).map (·.id) = a.id :: (b :: l).map (·.id) := rfl
    rw [e, rise_cons]
    constructor
    · rintro ⟨h1, h2⟩
      refine ⟨fun x hx => ?_, h2⟩
      rw [List.map_cons] at hx h2
      rcases List.mem_cons.1 hx with e | hx
      · subst e; exact h1
      · exact ls_trans h1 ((rise_cons.1 h2).1 x hx)
    · rintro ⟨h1, h2⟩
      exact ⟨h1 b.id (by simp), h2⟩
abbrev RiseI (l : List Itm) : Prop := Rise (l.map (·.id))
theorem riseI_cons {a : Itm} {l : List Itm} : RiseI (a :: l) ↔ (∀ x ∈ l, lsB a.id x.id = true) ∧ RiseI l := by
  unfold RiseI
  rw [List.map_cons, rise_cons]
  simp
theorem riseI_filter {p : Itm → Bool} {l : List Itm} (h : RiseI l) : RiseI (l.filter p) := by
  unfold RiseI Rise at *
  rw [List.pairwise_map] at *
  exact List.Pairwise.filter p h
theorem riseI_app {l m : List Itm} (h1 : RiseI l) (h2 : RiseI m) (h : ∀ a ∈ l, ∀ b ∈ m, lsB a.id b.id = true) : RiseI (l ++ m) := by
  unfold RiseI Rise at *
  rw [List.map_append, List.pairwise_append]
  refine ⟨h1, h2, fun a ha b hb => ?_⟩
  obtain ⟨x, hx, rfl⟩ := List.mem_map.1 ha
  obtain ⟨y, hy, rfl⟩ := List.mem_map.1 hb
  exact h x hx y hy
theorem riseI_uniq {l : List Itm} (h : RiseI l) {a b : Itm} (ha : a ∈ l) (hb : b ∈ l) (e : a.id = b.id) : a = b := by
  induction l with
  | nil => simp at ha
  | cons x l ih =>
    rw [riseI_cons] at h
    rcases List.mem_cons.1 ha with ea | ha
    · rcases List.mem_cons.1 hb with eb | hb
      · rw [ea, eb]
      · have := h.1 b hb; rw [← ea, e, ls_irr] at this; cases this
    · rcases List.mem_cons.1 hb with eb | hb
      · have := h.1 a ha; rw [← eb, e, ls_irr] at this; cases this
      · exact ih h.2 ha hb
/-! ### Put, dropped -/
theorem put_rise {l : List Itm} {x : Itm} (h : RiseI l) : RiseI (putI l x) := by
  unfold putI
  refine riseI_app (riseI_app (riseI_filter h) (riseI_cons.2 ⟨by simp, by simp [RiseI, Rise]⟩) fun a ha b hb => ?_) (riseI_filter h) fun a ha b hb => ?_
  · simp at hb; subst hb; exact (List.mem_filter.1 ha).2
  · have h2 := (List.mem_filter.1 hb).2
    rw [gt_eq] at h2
    rcases List.mem_append.1 ha with ha | ha
    · exact ls_trans (List.mem_filter.1 ha).2 h2
    · simp at ha; subst ha; exact h2
theorem mem_put {l : List Itm} {x i : Itm} : i ∈ putI l x ↔ i = x ∨ (i ∈ l ∧ i.id ≠ x.id) := by
  unfold putI
  simp only [List.mem_append, List.mem_filter, List.mem_cons, List.not_mem_nil, or_false, gt_eq]
  constructor
  · rintro ((⟨h1, h2⟩ | h) | ⟨h1, h2⟩)
    · exact .inr ⟨h1, ls_ne h2⟩
    · exact .inl h
    · exact .inr ⟨h1, fun e => ls_ne h2 e.symm⟩
  · rintro (h | ⟨h1, h2⟩)
    · exact .inl (.inr h)
    · rcases ls_tri i.id x.id with h | h | h
      · exact .inl (.inl ⟨h1, h⟩)
      · exact absurd h h2
      · exact .inr ⟨h1, h⟩
theorem mem_drop {l : List Itm} {id : ByteArray} {i : Itm} : i ∈ l.filter (neB id) ↔ i ∈ l ∧ i.id ≠ id := by
  rw [List.mem_filter]
  unfold neB
  rw [Bool.not_eq_true', tl_ne]
/-! ### Got -/
theorem get_some {l : List Itm} {id : ByteArray} {i : Itm} (h : RiseI l) (hi : i ∈ l) (e : i.id = id) : getI l id = (i, true) := by
  unfold getI
  have hf : l.find? (fun i => i.id.toList == id.toList) = some i := by
    cases hq : l.find? (fun i => i.id.toList == id.toList) with
    | none =>
      rw [List.find?_eq_none] at hq
      exact absurd (tl_eq.2 e) (hq i hi)
    | some j =>
      have hj : (j.id.toList == id.toList) = true := List.find?_some (p := fun i : Itm => i.id.toList == id.toList) hq
      have hm := List.mem_of_find?_eq_some hq
      rw [riseI_uniq h hm hi ((tl_eq.1 hj).trans e.symm)]
  rw [hf]
theorem get_none {l : List Itm} {id : ByteArray} (h : ∀ i ∈ l, i.id ≠ id) : getI l id = (Itm.zero, false) := by
  unfold getI
  rw [show l.find? (fun i => i.id.toList == id.toList) = none from List.find?_eq_none.2 fun i hi hq => h i hi (tl_eq.1 hq)]
theorem get_cases (l : List Itm) (id : ByteArray) : (∃ i, i ∈ l ∧ i.id = id ∧ getI l id = (i, true)) ∨ ((∀ i ∈ l, i.id ≠ id) ∧ getI l id = (Itm.zero, false)) := by
  by_cases h : ∃ i ∈ l, i.id = id
  · obtain ⟨i, hi, e⟩ := h
    left
    unfold getI
    cases hq : l.find? (fun i => i.id.toList == id.toList) with
    | none => rw [List.find?_eq_none] at hq; exact absurd (tl_eq.2 e) (hq i hi)
    | some j => exact ⟨j, List.mem_of_find?_eq_some hq, tl_eq.1 (List.find?_some (p := fun i : Itm => i.id.toList == id.toList) hq), rfl⟩
  · right
    have h' : ∀ i ∈ l, i.id ≠ id := fun i hi e => h ⟨i, hi, e⟩
    exact ⟨h', get_none h'⟩
theorem get_same {l m : List Itm} {id : ByteArray} (hl : RiseI l) (h : ∀ i : Itm, i.id = id → (i ∈ l ↔ i ∈ m)) : getI m id = getI l id := by
  rcases get_cases m id with ⟨i, hi, e, hg⟩ | ⟨hn, hg⟩
  · rw [hg, get_some hl ((h i e).2 hi) e]
  · rw [hg, get_none fun i hi e => hn i ((h i e).1 hi) e]
theorem get_put {l : List Itm} {x : Itm} (h : RiseI l) (id : ByteArray) : getI (putI l x) id = if id = x.id then (x, true) else getI l id := by
  split
  · rename_i e; exact get_some (put_rise h) (mem_put.2 (.inl rfl)) e.symm
  · rename_i e
    refine get_same h fun i hi => ?_
    rw [mem_put]
    constructor
    · intro hm; exact .inr ⟨hm, fun e' => e (hi.symm.trans e')⟩
    · rintro (rfl | h)
      · exact absurd hi.symm e
      · exact h.1
theorem get_drop {l : List Itm} {x : ByteArray} (h : RiseI l) (id : ByteArray) : getI (l.filter (neB x)) id = if id = x then (Itm.zero, false) else getI l id := by
  split
  · rename_i e; exact get_none fun i hi e' => (mem_drop.1 hi).2 (e'.trans e)
  · rename_i e
    refine get_same h fun i hi => ?_
    rw [mem_drop]
    exact ⟨fun hm => ⟨hm, fun e' => e (hi.symm.trans e')⟩, fun hm => hm.1⟩
/-! ### All of both -/
theorem step_rise {f : Itm → Itm → Bool} {l : List Itm} {y : Itm} (h : RiseI l) : RiseI (stepI f l y) := by
  unfold stepI; split
  · exact put_rise h
  · exact h
theorem both_rise {f : Itm → Itm → Bool} (b : List Itm) : ∀ {a : List Itm}, RiseI a → RiseI (bothI f a b) := by
  induction b with
  | nil => intro a h; exact h
  | cons y b ih => intro a h; exact ih (step_rise h)
theorem both_mem {f : Itm → Itm → Bool} (b : List Itm) : ∀ {a : List Itm} {i : Itm}, i ∈ bothI f a b → i ∈ a ∨ i ∈ b := by
  induction b with
  | nil => intro a i h; exact .inl h
  | cons y b ih =>
    intro a i h
    have h' : i ∈ bothI f (stepI f a y) b := h
    rcases ih h' with h1 | h1
    · rcases step_mem h1 with h2 | h2
      · exact .inl h2
      · exact .inr (by simp [h2])
    · exact .inr (by simp [h1])
theorem get_step {f : Itm → Itm → Bool} {l : List Itm} {y : Itm} (h : RiseI l) (id : ByteArray) : getI (stepI f l y) id = if id = y.id then (if (!(getI l id).2 || f y (getI l id).1) = true then (y, true) else getI l id) else getI l id := by
  unfold stepI
  by_cases e : id = y.id
  · subst e
    rw [if_pos rfl]
    split
    · rw [get_put h, if_pos rfl]
    · rfl
  · rw [if_neg e]
    split
    · rw [get_put h, if_neg e]
    · rfl
theorem both_other {f : Itm → Itm → Bool} (b : List Itm) : ∀ {a : List Itm} {id : ByteArray}, RiseI a → (∀ i ∈ b, i.id ≠ id) → getI (bothI f a b) id = getI a id := by
  induction b with
  | nil => intro a id _ _; rfl
  | cons y b ih =>
    intro a id h hn
    have h' : getI (bothI f (stepI f a y) b) id = getI (stepI f a y) id := ih (step_rise h) fun i hi => hn i (by simp [hi])
    have : bothI f a (y :: b) = bothI f (stepI f a y) b := rfl
    rw [this, h', get_step h, if_neg (fun e => hn y (by simp) e.symm)]
theorem get_both {f : Itm → Itm → Bool} (b : List Itm) : ∀ {a : List Itm} (id : ByteArray), RiseI a → RiseI b → getI (bothI f a b) id = if (getI b id).2 = true then (if (!(getI a id).2 || f (getI b id).1 (getI a id).1) = true then ((getI b id).1, true) else getI a id) else getI a id := by
  induction b with
  | nil => intro a id _ _; rw [show getI [] id = (Itm.zero, false) from rfl]; rfl
  | cons y b ih =>
    intro a id ha hb
    rw [riseI_cons] at hb
    have e0 : bothI f a (y :: b) = bothI f (stepI f a y) b := rfl
    by_cases e : id = y.id
    · have hn : ∀ i ∈ b, i.id ≠ id := by
        intro i hi e'
        have := hb.1 i hi
        rw [e', e, ls_irr] at this; cases this
      have hg : getI (y :: b) id = (y, true) := get_some (riseI_cons.2 hb) (by simp) e.symm
      rw [e0, both_other b (step_rise ha) hn, get_step ha, if_pos e, hg, if_pos rfl]
    · have hg : getI (y :: b) id = getI b id := get_same hb.2 fun i hi => by
        constructor
        · intro h; simp [h]
        · intro h
          rcases List.mem_cons.1 h with rfl | h
          · exact absurd hi.symm e
          · exact h
      rw [e0, ih id (step_rise ha) hb.2, hg, get_step ha, if_neg e]
end Go.Proofs.YthbjgfennclidaaGreat
/- What is known: the document's beyond, walked. -/
namespace Go.Proofs.YthbjgfennclidaaGreat
set_option linter.unusedVariables false
set_option linter.unusedSimpArgs false
set_option maxRecDepth 100000
open Go.RowKit
structure BySt (w : World) (X Z V : Array Value) (wr : World) : Prop where
  o1 : Own wr w.heap.size X 31
  o2 : Own wr (w.heap.size + 1) Z 28
  o3 : Own wr (w.heap.size + 1 + 1) V 28
  bel : Below w.heap.size w wr
theorem BySt.later {w wr w' : World} {X Z V : Array Value} (h : BySt w X Z V wr) (hb : Below wr.heap.size wr w') : BySt w X Z V w' :=
  ⟨h.o1.later hb, h.o2.later hb, h.o3.later hb, h.bel.trans (hb.mono h.bel.size)⟩
theorem BySt.put8 {w wr : World} {X Z : Array Value} {z0 z1 z2 z3 z4 z5 z6 z7 : Value} (h : BySt w X Z #[z0, z1, z2, z3, z4, z5, z6, z7] wr) (c0 c1 c2 c3 c4 c5 c6 c7 : Value) : BySt w X Z #[c0, c1, c2, c3, c4, c5, c6, c7] (st8 wr (w.heap.size + 1 + 1) c0 c1 c2 c3 c4 c5 c6 c7) := by
  have hf : ∀ {b : Nat} {c : Array Value} {t : TypeId}, Own wr b c t → b ≠ w.heap.size + 1 + 1 → Own (st8 wr (w.heap.size + 1 + 1) c0 c1 c2 c3 c4 c5 c6 c7) b c t := by
    intro b c t ho hb
    unfold st8
    exact ((((((((ho.setFar _ _ hb).setFar _ _ hb).setFar _ _ hb).setFar _ _ hb).setFar _ _ hb).setFar _ _ hb).setFar _ _ hb).setFar _ _ hb)
  exact ⟨hf h.o1 (by omega), hf h.o2 (by omega), st8_own h.o3 _ _ _ _ _ _ _ _, st8_below h.bel (by omega) _ _ _ _ _ _ _ _⟩
theorem BySt.put1 {w wr : World} {X Z : Array Value} {V : Nat → Int} (h : BySt w X Z (arr8 V) wr) {k : Nat} (hk : k < 8) (v : Int) : BySt w X Z (arr8 (fun j => if j = k then v else V j)) (wr.setCell ⟨w.heap.size + 1 + 1, k, none⟩ (.int .i64 v)) := by
  refine ⟨h.o1.setFar _ _ (by show w.heap.size ≠ w.heap.size + 1 + 1; omega), h.o2.setFar _ _ (by show w.heap.size + 1 ≠ w.heap.size + 1 + 1; omega), ?_, h.bel.setCell (by show w.heap.size ≤ w.heap.size + 1 + 1; omega) _⟩
  rw [← arr_set V hk v]
  exact h.o3.set k _
def mixV (B R : Nat → Int) (k : Nat) (j : Nat) : Int := if j < k then B j else R j
theorem mix_zero (B R : Nat → Int) : arr8 R = arr8 (mixV B R 0) := arr_congr fun j _ => by unfold mixV; rw [if_neg (by omega)]
theorem mix_whole (B R : Nat → Int) : arr8 (mixV B R 8) = arr8 B := arr_congr fun j h => by unfold mixV; rw [if_pos h]
theorem mix_put (B R : Nat → Int) {k : Nat} {v : Int} (hv : v = B k) : arr8 (fun j => if j = k then v else mixV B R k j) = arr8 (mixV B R (k + 1)) := arr_congr fun j _ => by
  unfold mixV
  by_cases e : j = k
  · subst e; rw [if_pos rfl, if_pos (by omega)]; exact hv
  · rw [if_neg e]
    by_cases h : j < k
    · rw [if_pos h, if_pos (by omega)]
    · rw [if_neg h, if_neg (by omega)]
theorem mix_skip (B R : Nat → Int) {k : Nat} (hv : R k = B k) : arr8 (mixV B R k) = arr8 (mixV B R (k + 1)) := arr_congr fun j _ => by
  unfold mixV
  by_cases e : j = k
  · subst e; rw [if_neg (by omega), if_pos (by omega)]; exact hv
  · by_cases h : j < k
    · rw [if_pos h, if_pos (by omega)]
    · rw [if_neg h, if_neg (by omega)]
theorem raw_take {l : List Fr} {k : Nat} {f : Fr} {id : ByteArray} (h : l[k]? = some f) : rawF (l.take (k + 1)) id = rawStep id (rawF (l.take k) id) f := by
  unfold rawF; rw [takeT h, List.foldl_append]; rfl
def ByRel1 (l : List Fr) (id : ByteArray) (len : Nat) (X : Array Value) (w : World) (iv : Value) (wr : World) : Prop :=
  ∃ k : Nat, k ≤ len ∧ iv = .int .i64 k ∧ Hid (BySt w X (arr8 zeroV) (arr8 (rawF (l.take k) id)) wr)
def ByRel2 (B R : Nat → Int) (X : Array Value) (w : World) (iv : Value) (wr : World) : Prop :=
  ∃ k : Nat, k ≤ 8 ∧ iv = .int .i64 k ∧ Hid (BySt w X (arr8 zeroV) (arr8 (mixV B R k)) wr)
theorem kn_star (A : Nat → Int) (v : Value) {k : Nat} (h : k < 8) : (knA A v)[k]? = some (.int .i64 (A k)) := by
  match k, h with
  | 0, _ | 1, _ | 2, _ | 3, _ | 4, _ | 5, _ | 6, _ | 7, _ => rfl
set_option maxRecDepth 100000 in
set_option maxHeartbeats 4000000 in
theorem beyond_calls (K : Kn) (id : ByteArray) (v : Value) (w : World) (hR : FrW w K.l v) :
    Calls Tryz.prog 161 #[knV K.star v, .string id] w fun e w' => e = .returned (vecV (beyB K id)) ∧ Below w.heap.size w w' := by
  obtain ⟨A, l⟩ := K
  obtain ⟨U, oa, cap, b, o, rfl, hr⟩ := hR
  simp only at hr ⊢
  have HR := Lib.hid hr
  have hcap := hr.len
  have hmax := hr.max
  unfold maxLen at hmax
  clear hr
  generalize hn : l.length = len at *
  have HN := Lib.hid hn
  clear hn
  have HBE := Lib.hid (show ∀ j, j < 8 → beyB ⟨A, l⟩ id j = if rawF l id j ≤ A j then 0 else rawF l id j from fun j hj => by unfold beyB; rw [if_pos hj])
  generalize beyB ⟨A, l⟩ id = B at *
  have I0 : BySt w (knA A (.slice oa len cap)) (arr8 zeroV) (arr8 (rawF (l.take 0) id)) (((w.alloc (.cells (knA A (.slice oa len cap)) 31)).alloc (.cells (arr8 zeroV) 28)).alloc (.cells (arr8 zeroV) 28)) :=
    ⟨((Own.new w _ _).alloc _).alloc _, (Own.newAt _ _ _ (by simp)).alloc _, Own.newAt _ _ _ (by simp), (((Below.refl _ _).alloc (Nat.le_refl _) _).alloc (by simp) _).alloc (by simp; omega) _⟩
  have HI0 := Lib.hid I0
  clear I0
  go_enter Tryz.func161, Tryz.ntmps161
  go_wp2_with fail
  go_loopw [6] (fun iv wr => ByRel1 l id len (knA A (.slice oa len cap)) w iv wr) (fun iv _ => len - (intOf iv).toNat)
  case atStart => exact ⟨0, Nat.zero_le _, rfl, HI0⟩
  case round =>
    clear HI0
    obtain ⟨k, hk, rfl, HP⟩ := hrel
    have l1 := HP.out.o1.cell
    have z1 := HP.out.o1.lt
    by_cases hlt : k < len
    · obtain ⟨f, hf⟩ : ∃ f, l[k]? = some f := ⟨_, List.getElem?_eq_getElem (by rw [HN.out]; exact hlt)⟩
      obtain ⟨rfl, hb0⟩ := HR.out.at0 (by rw [HN.out]; omega)
      obtain ⟨c0, c1, c2, c3, c4, c5, c6, c7, c8⟩ := fc_cells (w := wr) (fun j z hz => (HP.out.bel.cell (p := ⟨b, o + k * 9 + j, none⟩) hb0).trans (HR.out.cell k f hf j z hz))
      have htx := (HR.out.ids k f hf).later HP.out.bel (Nat.le_refl _)
      obtain ⟨ou, cu, hu⟩ := htx.val
      rw [hu] at c0 htx
      have C := Lib.hid (among_calls f.ids id _ wr htx)
      have zb := Nat.lt_of_lt_of_le hb0 HP.out.bel.size
      have HF := Lib.hid (raw_take (id := id) hf)
      have l3 := HP.out.o3.cell
      have z3 := HP.out.o3.lt
      have k0 : (0 : Int) ≤ (k : Int) := by omega
      have k1 : (k : Int) < (len : Int) := by omega
      clear htx hu hf
      cases ham : amongB f.ids id
      · rw [ham] at C
        have HS := Lib.hid (show rawF (l.take (k + 1)) id = rawF (l.take k) id by rw [HF.out, rawStep, if_neg (by rw [ham]; simp)])
        go_wp2_with (go_at_call 64; refine C.out.mono ?_; rintro e w2 ⟨rfl, rfl⟩)
        go_roundw
        case rel => exact ⟨k + 1, by omega, by go_num, by unfold Hid; rw [HS.out]; exact HP.out⟩
        case measure => simp [intOf]; omega
      · rw [ham] at C
        have HS := Lib.hid (show rawF (l.take (k + 1)) id = maxV (rawF (l.take k) id) f.v by rw [HF.out, rawStep, if_pos ham])
        have M := Lib.hid (refMax_calls (rawF (l.take k) id) f.v wr.drew)
        clear HF ham
        go_wp2_with (go_at_call 64; refine C.out.mono ?_; rintro e w2 ⟨rfl, rfl⟩)
        refine region_still_tail 7 (by kernel_rfl) (by kernel_rfl) ?_
        simp only [List.take_succ_cons, List.take_zero, List.drop_succ_cons, List.drop_zero]
        repeat still_step
        refine wpStill_nil ?_
        clear c0 c1 c2 c3 c4 c5 c6 c7 c8 l1 l3
        go_wp2_with fail
        refine M.out.mono ?_
        rintro e w2 ⟨rfl, hb2⟩
        have hb3 : Below wr.heap.size wr w2 := (Below.refl wr.heap.size wr).drew.trans hb2
        have HP2 := Lib.hid (HP.out.later hb3)
        clear hb2 hb3 HP
        have l3 := HP2.out.o3.cell
        have f3 := HP2.out.o3.free
        have z3 := HP2.out.o3.lt
        have HP3 := Lib.hid (HP2.out.put8 (.int .i64 (maxV (rawF (l.take k) id) f.v 0)) (.int .i64 (maxV (rawF (l.take k) id) f.v 1)) (.int .i64 (maxV (rawF (l.take k) id) f.v 2)) (.int .i64 (maxV (rawF (l.take k) id) f.v 3)) (.int .i64 (maxV (rawF (l.take k) id) f.v 4)) (.int .i64 (maxV (rawF (l.take k) id) f.v 5)) (.int .i64 (maxV (rawF (l.take k) id) f.v 6)) (.int .i64 (maxV (rawF (l.take k) id) f.v 7)))
        rw [← HS.out] at HP3
        go_wp2_with fail
        clear l3 f3 z3
        go_roundw
        case rel => exact ⟨k + 1, by omega, by go_num, by rw [HS.out] at HP3 ⊢; exact HP3⟩
        case measure => simp [intOf]; omega
    · have e : len = k := by omega
      subst e
      have h1 := HP.out
      rw [show l.take len = l from List.take_of_length_le (by rw [HN.out]; omega)] at h1
      rw [mix_zero B (rawF l id)] at h1
      have HP := Lib.hid h1
      have HPx := HP
      clear h1
      go_wp2_with fail
      clear l1 z1
      go_loopw [7] (fun iv wr => ByRel2 B (rawF l id) (knA A (.slice oa len cap)) w iv wr) (fun iv _ => 8 - (intOf iv).toNat)
      case atStart => exact ⟨0, by omega, rfl, HPx⟩
      case round =>
        clear HP HPx
        obtain ⟨j, hj, rfl, HP⟩ := hrel
        by_cases hjt : j < 8
        · have LA := fun dd os => (HP.out.o1.has.regrown dd os j).trans (kn_star A _ hjt)
          have LB := fun dd os => (HP.out.o3.has.regrown dd os j).trans (arr_get (mixV B (rawF l id) j) hjt)
          have zA := HP.out.o1.lt
          have zB := HP.out.o3.lt
          have k0 : (0 : Int) ≤ (j : Int) := by omega
          have k1 : (j : Int) < 8 := by omega
          have hm : mixV B (rawF l id) j j = rawF l id j := by unfold mixV; rw [if_neg (by omega)]
          rw [hm] at LB
          by_cases h : rawF l id j ≤ A j
          · have g : decide (rawF l id j ≤ A j) = true := decide_eq_true h
            have HV := Lib.hid (show (0 : Int) = B j by rw [HBE.out j hjt, if_pos h])
            go_wp2_with fail
            refine wp_region_quiet_below (by kernel_rfl) (by kernel_rfl) ?_
            repeat (first | go_big_quiet_step (fail) | quiet_step (fail))
            refine wpQuiet_nil ?_
            intro w7 hw'
            have hb' := Lib.hid (regrown_below hw')
            clear hw'
            clear LA LB
            have HP7 := Lib.hid (HP.out.later hb'.out)
            have HP8 := HP7.out.put1 hjt 0
            rw [mix_put _ _ HV.out] at HP8
            have HP9 := Lib.hid HP8
            clear HP8
            have c7 := (HP7.out.o3.cell j).trans (arr_get (mixV B (rawF l id) j) hjt)
            have f7 := HP7.out.o3.free j
            have z7 := HP7.out.o3.lt
            go_wp2_with fail
            go_roundw
            case rel => exact ⟨j + 1, by omega, by go_num, HP9⟩
            case measure => simp [intOf]; omega
          · have g : decide (rawF l id j ≤ A j) = false := decide_eq_false h
            have HV := Lib.hid (show rawF l id j = B j by rw [HBE.out j hjt, if_neg h])
            go_wp2_with fail
            refine wp_region_quiet_below (by kernel_rfl) (by kernel_rfl) ?_
            repeat (first | go_big_quiet_step (fail) | quiet_step (fail))
            refine wpQuiet_nil ?_
            intro w7 hw'
            have hb' := Lib.hid (regrown_below hw')
            clear hw'
            clear LA LB
            have HP7 := HP.out.later hb'.out
            rw [mix_skip _ _ HV.out] at HP7
            have HP9 := Lib.hid HP7
            clear HP7
            go_wp2_with fail
            go_roundw
            case rel => exact ⟨j + 1, by omega, by go_num, HP9⟩
            case measure => simp [intOf]; omega
        · have e : j = 8 := by omega
          subst e
          have h1 := HP.out
          rw [mix_whole] at h1
          have HP := Lib.hid h1
          clear h1
          have l2 := HP.out.o2.cell
          have f2 := HP.out.o2.free
          have z2 := HP.out.o2.lt
          have l3 := HP.out.o3.cell
          have z3 := HP.out.o3.lt
          go_wp2_with fail
          have key := And.intro (st8_own HP.out.o2 (.int .i64 (B 0)) (.int .i64 (B 1)) (.int .i64 (B 2)) (.int .i64 (B 3)) (.int .i64 (B 4)) (.int .i64 (B 5)) (.int .i64 (B 6)) (.int .i64 (B 7))) (st8_below (b := w.heap.size + 1) HP.out.bel (by omega) (.int .i64 (B 0)) (.int .i64 (B 1)) (.int .i64 (B 2)) (.int .i64 (B 3)) (.int .i64 (B 4)) (.int .i64 (B 5)) (.int .i64 (B 6)) (.int .i64 (B 7)))
          clear l2 f2 z2 l3 z3
          unfold st8 at key
          revert key
          generalize World.setCell (World.setCell (World.setCell (World.setCell (World.setCell (World.setCell (World.setCell (World.setCell _ _ _) _ _) _ _) _ _) _ _) _ _) _ _) _ _ = WW
          rintro ⟨of, bf⟩
          have lf := of.cell
          refine bodyPost_ret (v := vecV B) (by simp [results, Tryz.results161, go_sem, lf]) rfl ⟨rfl, bf⟩
end Go.Proofs.YthbjgfennclidaaGreat
/- How far two places are apart: the document's answer, walked. -/
namespace Go.Proofs.YthbjgfennclidaaGreat
set_option linter.unusedVariables false
set_option linter.unusedSimpArgs false
set_option maxRecDepth 100000
open Go.RowKit
set_option maxHeartbeats 1000000 in
theorem refFar_calls (a b c d : Nat) (w : World) :
    Calls Tryz.prog 66 #[.complex .f64 a b, .complex .f64 c d] w fun e w' => e = .returned (.int .i64 (farV a b c d)) ∧ w = w' := by
  unfold farV
  have H1 := Lib.hid (place_calls a b w)
  have H2 := Lib.hid (place_calls c d w)
  cases h1 : mayB a b
  · have h1' := Lib.hid h1
    clear h1
    generalize mayB c d = q at *
    go_enter Tryz.func66, Tryz.ntmps66
    go_wp2_with fail
    refine ((H1).out).mono ?_
    rw [h1'.out]; rintro e w' ⟨rfl, rfl⟩
    go_wp2_with fail
    refine ((H2).out).mono ?_
    rintro e w' ⟨rfl, rfl⟩
    go_wp2
    go_ret
    exact ⟨rfl, rfl⟩
  · cases h2 : mayB c d
    · have h1' := Lib.hid h1
      have h2' := Lib.hid h2
      clear h1 h2
      go_enter Tryz.func66, Tryz.ntmps66
      go_wp2_with fail
      refine ((H1).out).mono ?_
      rw [h1'.out]; rintro e w' ⟨rfl, rfl⟩
      go_wp2_with fail
      refine ((H2).out).mono ?_
      rw [h2'.out]; rintro e w' ⟨rfl, rfl⟩
      go_wp2
      go_ret
      exact ⟨rfl, rfl⟩
    · obtain ⟨ia, ib, ba, bb⟩ := may_parts h1
      obtain ⟨ic, id, bc, bd⟩ := may_parts h2
      have k1 := run_convert_float_int (P := Tryz.prog) w 22 3 .f64 .i64 a _ (by kernel_rfl) (by kernel_rfl) (Fl.toIntVal_int ia (by omega))
      have k2 := run_convert_float_int (P := Tryz.prog) w 22 3 .f64 .i64 b _ (by kernel_rfl) (by kernel_rfl) (Fl.toIntVal_int ib (by omega))
      have k3 := run_convert_float_int (P := Tryz.prog) w 22 3 .f64 .i64 c _ (by kernel_rfl) (by kernel_rfl) (Fl.toIntVal_int ic (by omega))
      have k4 := run_convert_float_int (P := Tryz.prog) w 22 3 .f64 .i64 d _ (by kernel_rfl) (by kernel_rfl) (Fl.toIntVal_int id (by omega))
      simp only [Bool.and_self, if_true]
      clear ia ib ic id
      generalize Fl.iv a = x at *
      generalize Fl.iv b = y at *
      generalize Fl.iv c = z at *
      generalize Fl.iv d = u at *
      have hp1 : -2000 ≤ x - z := by omega
      have hp2 : x - z ≤ 2000 := by omega
      have hq1 : -2000 ≤ y - u := by omega
      have hq2 : y - u ≤ 2000 := by omega
      obtain ⟨sp1, sp2⟩ := sq_bd hp1 hp2
      obtain ⟨sq1, sq2⟩ := sq_bd hq1 hq2
      have x1 : -1000 ≤ x := by omega
      have x2 : x ≤ 1000 := by omega
      have y1 : -1000 ≤ y := by omega
      have y2 : y ≤ 1000 := by omega
      have z1 : -1000 ≤ z := by omega
      have z2 : z ≤ 1000 := by omega
      have u1 : -1000 ≤ u := by omega
      have u2 : u ≤ 1000 := by omega
      clear ba bb bc bd
      have h1' := Lib.hid h1
      have h2' := Lib.hid h2
      clear h1 h2
      go_enter Tryz.func66, Tryz.ntmps66
      go_wp2_with fail
      refine ((H1).out).mono ?_
      rw [h1'.out]; rintro e w' ⟨rfl, rfl⟩
      go_wp2_with fail
      refine ((H2).out).mono ?_
      rw [h2'.out]; rintro e w' ⟨rfl, rfl⟩
      go_wp2
      go_ret
      exact ⟨rfl, rfl⟩
end Go.Proofs.YthbjgfennclidaaGreat
/- Filters made plain: plain mathematics. No walk. -/
namespace Go.Proofs.YthbjgfennclidaaGreat
set_option linter.unusedVariables false
set_option linter.unusedSimpArgs false
set_option maxRecDepth 100000
namespace Pr
def leaf (op : Int) : Pr := node op ⟨#[]⟩ 0 0 0 []
def flat (op : Int) : List Pr → List Pr
  | [] => []
  | k :: l => (if k.op = op then k.kids else [k]) ++ flat op l
def twice (l : List Pr) (a : Pr) : Bool := l.any fun b => same b a
def keepFrom (no : Int) : List Pr → List Pr → List Pr
  | _, [] => []
  | pre, a :: l => (if twice pre a = true ∨ a.op = no then [] else [a]) ++ keepFrom no (pre ++ [a]) l
def keep (no : Int) (l : List Pr) : List Pr := keepFrom no [] l
def noOf (op : Int) : Int := if op = 9 then 2 else 1
def hasOp (o : Int) (l : List Pr) : Bool := l.any fun b => decide (b.op = o)
def outOf (op : Int) (t : ByteArray) (n : Int) (x y : Nat) : List Pr → Pr
  | [] => leaf (noOf op)
  | [a] => a
  | l => node op t n x y l
def glue (op : Int) (t : ByteArray) (n : Int) (x y : Nat) (ks : List Pr) : Pr :=
  if hasOp (3 - noOf op) (flat op ks) = true then leaf (3 - noOf op) else outOf op t n x y (keep (noOf op) (flat op ks))
def turn (t : ByteArray) (n : Int) (x y : Nat) : List Pr → Pr
  | [k] => if k.op = 1 ∨ k.op = 2 then leaf (3 - k.op) else if k.op = 10 then k.kids.headD (leaf 0) else node 10 t n x y [k]
  | _ => node 10 t n x y []
def finish (op : Int) (t : ByteArray) (n : Int) (x y : Nat) (ks : List Pr) : Pr :=
  if op = 10 then turn t n x y ks else if op = 8 ∨ op = 9 then glue op t n x y ks else node op t n x y []
mutual
def plain : Pr → Pr | node op t n x y k => finish op t n x y (plains k)
def plains : List Pr → List Pr | [] => [] | k :: l => plain k :: plains l
end
/-! ### keep -/
/-! ### flat -/
theorem size_kids (k : Pr) : k.size = 1 + sizes k.kids := by cases k; simp [size, kids]
theorem all_kids {k : Pr} (h : k.all = true) : alls k.kids = true := by
  cases k; simp only [all, Bool.and_eq_true] at h; exact h.2
theorem alls_iff {l : List Pr} : alls l = true ↔ ∀ k ∈ l, k.all = true := by
  induction l with
  | nil => simp [alls]
  | cons a l ih => simp [alls, ih]
/-! ### plain: no larger, no deeper, may be -/
theorem part10 {t : ByteArray} {n : Int} {x y k : Nat} (h : partB 10 t n x y k = true) : k = 1 := by
  simp [partB] at h; exact h.1
end Pr
end Go.Proofs.YthbjgfennclidaaGreat
/- '==' of two items. No walk. -/
namespace Go.Proofs.YthbjgfennclidaaGreat
set_option linter.unusedVariables false
set_option linter.unusedSimpArgs false
set_option maxRecDepth 100000
open Go.RowKit
def eqT (a b : Itm) : Bool := (a.id.toList == b.id.toList) && ((a.r == b.r && a.c == b.c) && ((a.st == b.st) && ((a.kd.toList == b.kd.toList) && ((a.num == b.num) && ((feq a.x b.x && feq a.y b.y) && (a.d == b.d))))))
theorem eqT_self {a : Itm} (hx : feq a.x a.x = true) (hy : feq a.y a.y = true) : eqT a a = true := by
  unfold eqT; simp [hx, hy]
end Go.Proofs.YthbjgfennclidaaGreat
