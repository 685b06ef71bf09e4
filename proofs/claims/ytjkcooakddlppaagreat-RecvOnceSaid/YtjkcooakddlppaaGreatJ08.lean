/- Joined: ListM, ItemEq, RefNames, FarA. -/
import Derived.Test.YtjkcooakddlppaaGreatJ04
import Derived.Test.YtjkcooakddlppaaGreatJ06
import Derived.Laws.StructEq
import Derived.Laws.Cover2
import Derived.Test.YtjkcooakddlppaaGreatJ07
/- Lists of items that rise: plain mathematics. No walk. -/
namespace Go.Proofs.YtjkcooakddlppaaGreat
set_option linter.unusedVariables false
set_option linter.unusedSimpArgs false
set_option maxRecDepth 100000
open Go.RowKit
theorem up_eq (a b : Itm) : upB a b = lsB a.id b.id := by
  have h := gt_eq b.id a.id
  unfold gtB at h
  exact h
theorem rises_rise : ∀ {l : List Itm}, risesB l = true ↔ Rise (l.map (·.id))
  | [] => by simp [risesB, Rise]
  | [a] => by simp [risesB, Rise]
  | a :: b :: l => by
    rw [risesB, Bool.and_eq_true, rises_rise (l := b :: l), up_eq]
    have e : (a :: b :: l).map (·.id) = a.id :: (b :: l).map (·.id) := rfl
    rw [e, rise_cons]
    constructor
    · rintro ⟨h1, h2⟩
      refine ⟨fun x hx => ?_, h2⟩
      rw [List.map_cons] at hx h2
      rcases List.mem_cons.1 hx with e | hx
      · subst e; exact h1
      · exact ls_trans h1 ((rise_cons.1 h2).1 x hx)
    · rintro ⟨h1, h2⟩
      exact ⟨h1 b.id (by simp), h2⟩
abbrev RiseI (l : List Itm) : Prop := Rise (l.map (·.id))
theorem riseI_cons {a : Itm} {l : List Itm} : RiseI (a :: l) ↔ (∀ x ∈ l, lsB a.id x.id = true) ∧ RiseI l := by
  unfold RiseI
  rw [List.map_cons, rise_cons]
  simp
theorem riseI_filter {p : Itm → Bool} {l : List Itm} (h : RiseI l) : RiseI (l.filter p) := by
  unfold RiseI Rise at *
  rw [List.pairwise_map] at *
  exact List.Pairwise.filter p h
theorem riseI_app {l m : List Itm} (h1 : RiseI l) (h2 : RiseI m) (h : ∀ a ∈ l, ∀ b ∈ m, lsB a.id b.id = true) : RiseI (l ++ m) := by
  unfold RiseI Rise at *
  rw [List.map_append, List.pairwise_append]
  refine ⟨h1, h2, fun a ha b hb => ?_⟩
  obtain ⟨x, hx, rfl⟩ := List.mem_map.1 ha
  obtain ⟨y, hy, rfl⟩ := List.mem_map.1 hb
  exact h x hx y hy
theorem riseI_uniq {l : List Itm} (h : RiseI l) {a b : Itm} (ha : a ∈ l) (hb : b ∈ l) (e : a.id = b.id) : a = b := by
  induction l with
  | nil => simp at ha
  | cons x l ih =>
    rw [riseI_cons] at h
    rcases List.mem_cons.1 ha with ea | ha
    · rcases List.mem_cons.1 hb with eb | hb
      · rw [ea, eb]
      · have := h.1 b hb; rw [← ea, e, ls_irr] at this; cases this
    · rcases List.mem_cons.1 hb with eb | hb
      · have := h.1 a ha; rw [← eb, e, ls_irr] at this; cases this
      · exact ih h.2 ha hb
/-! ### Put, dropped -/
theorem put_rise {l : List Itm} {x : Itm} (h : RiseI l) : RiseI (putI l x) := by
  unfold putI
  refine riseI_app (riseI_app (riseI_filter h) (riseI_cons.2 ⟨by simp, by simp [RiseI, Rise]⟩) fun a ha b hb => ?_) (riseI_filter h) fun a ha b hb => ?_
  · simp at hb; subst hb; exact (List.mem_filter.1 ha).2
  · have h2 := (List.mem_filter.1 hb).2
    rw [gt_eq] at h2
    rcases List.mem_append.1 ha with ha | ha
    · exact ls_trans (List.mem_filter.1 ha).2 h2
    · simp at ha; subst ha; exact h2
theorem mem_put {l : List Itm} {x i : Itm} : i ∈ putI l x ↔ i = x ∨ (i ∈ l ∧ i.id ≠ x.id) := by
  unfold putI
  simp only [List.mem_append, List.mem_filter, List.mem_cons, List.not_mem_nil, or_false, gt_eq]
  constructor
  · rintro ((⟨h1, h2⟩ | h) | ⟨h1, h2⟩)
    · exact .inr ⟨h1, ls_ne h2⟩
    · exact .inl h
    · exact .inr ⟨h1, fun e => ls_ne h2 e.symm⟩
  · rintro (h | ⟨h1, h2⟩)
    · exact .inl (.inr h)
    · rcases ls_tri i.id x.id with h | h | h
      · exact .inl (.inl ⟨h1, h⟩)
      · exact absurd h h2
      · exact .inr ⟨h1, h⟩
theorem mem_drop {l : List Itm} {id : ByteArray} {i : Itm} : i ∈ l.filter (neB id) ↔ i ∈ l ∧ i.id ≠ id := by
  rw [List.mem_filter]
  unfold neB
  rw [Bool.not_eq_true', tl_ne]
/-! ### Got -/
theorem get_some {l : List Itm} {id : ByteArray} {i : Itm} (h : RiseI l) (hi : i ∈ l) (e : i.id = id) : getI l id = (i, true) := by
  unfold getI
  have hf : l.find? (fun i => i.id.toList == id.toList) = some i := by
    cases hq : l.find? (fun i => i.id.toList == id.toList) with
    | none =>
      rw [List.find?_eq_none] at hq
      exact absurd (tl_eq.2 e) (hq i hi)
    | some j =>
      have hj : (j.id.toList == id.toList) = true := List.find?_some (p := fun i : Itm => i.id.toList == id.toList) hq
      have hm := List.mem_of_find?_eq_some hq
      rw [riseI_uniq h hm hi ((tl_eq.1 hj).trans e.symm)]
  rw [hf]
theorem get_none {l : List Itm} {id : ByteArray} (h : ∀ i ∈ l, i.id ≠ id) : getI l id = (Itm.zero, false) := by
  unfold getI
  rw [show l.find? (fun i => i.id.toList == id.toList) = none from List.find?_eq_none.2 fun i hi hq => h i hi (tl_eq.1 hq)]
theorem get_cases (l : List Itm) (id : ByteArray) : (∃ i, i ∈ l ∧ i.id = id ∧ getI l id = (i, true)) ∨ ((∀ i ∈ l, i.id ≠ id) ∧ getI l id = (Itm.zero, false)) := by
  by_cases h : ∃ i ∈ l, i.id = id
  · obtain ⟨i, hi, e⟩ := h
    left
    unfold getI
    cases hq : l.find? (fun i => i.id.toList == id.toList) with
    | none => rw [List.find?_eq_none] at hq; exact absurd (tl_eq.2 e) (hq i hi)
    | some j => exact ⟨j, List.mem_of_find?_eq_some hq, tl_eq.1 (List.find?_some (p := fun i : Itm => i.id.toList == id.toList) hq), rfl⟩
  · right
    have h' : ∀ i ∈ l, i.id ≠ id := fun i hi e => h ⟨i, hi, e⟩
    exact ⟨h', get_none h'⟩
theorem get_same {l m : List Itm} {id : ByteArray} (hl : RiseI l) (h : ∀ i : Itm, i.id = id → (i ∈ l ↔ i ∈ m)) : getI m id = getI l id := by
  rcases get_cases m id with ⟨i, hi, e, hg⟩ | ⟨hn, hg⟩
  · rw [hg, get_some hl ((h i e).2 hi) e]
  · rw [hg, get_none fun i hi e => hn i ((h i e).1 hi) e]
theorem get_put {l : List Itm} {x : Itm} (h : RiseI l) (id : ByteArray) : getI (putI l x) id = if id = x.id then (x, true) else getI l id := by
  split
  · rename_i e; exact get_some (put_rise h) (mem_put.2 (.inl rfl)) e.symm
  · rename_i e
    refine get_same h fun i hi => ?_
    rw [mem_put]
    constructor
    · intro hm; exact .inr ⟨hm, fun e' => e (hi.symm.trans e')⟩
    · rintro (rfl | h)
      · exact absurd hi.symm e
      · exact h.1
theorem get_drop {l : List Itm} {x : ByteArray} (h : RiseI l) (id : ByteArray) : getI (l.filter (neB x)) id = if id = x then (Itm.zero, false) else getI l id := by
  split
  · rename_i e; exact get_none fun i hi e' => (mem_drop.1 hi).2 (e'.trans e)
  · rename_i e
    refine get_same h fun i hi => ?_
    rw [mem_drop]
    exact ⟨fun hm => ⟨hm, fun e' => e (hi.symm.trans e')⟩, fun hm => hm.1⟩
/-! ### All of both -/
theorem step_rise {f : Itm → Itm → Bool} {l : List Itm} {y : Itm} (h : RiseI l) : RiseI (stepI f l y) := by
  unfold stepI; split
  · exact put_rise h
  · exact h
theorem both_rise {f : Itm → Itm → Bool} (b : List Itm) : ∀ {a : List Itm}, RiseI a → RiseI (bothI f a b) := by
  induction b with
  | nil => intro a h; exact h
  | cons y b ih => intro a h; exact ih (step_rise h)
theorem both_mem {f : Itm → Itm → Bool} (b : List Itm) : ∀ {a : List Itm} {i : Itm}, i ∈ bothI f a b → i ∈ a ∨ i ∈ b := by
  induction b with
  | nil => intro a i h; exact .inl h
  | cons y b ih =>
    intro a i h
    have h' : i ∈ bothI f (stepI f a y) b := h
    rcases ih h' with h1 | h1
    · rcases step_mem h1 with h2 | h2
      · exact .inl h2
      · exact .inr (by simp [h2])
    · exact .inr (by simp [h1])
theorem get_step {f : Itm → Itm → Bool} {l : List Itm} {y : Itm} (h : RiseI l) (id : ByteArray) : getI (stepI f l y) id = if id = y.id then (if (!(getI l id).2 || f y (getI l id).1) = true then (y, true) else getI l id) else getI l id := by
  unfold stepI
  by_cases e : id = y.id
  · subst e
    rw [if_pos rfl]
    split
    · rw [get_put h, if_pos rfl]
    · rfl
  · rw [if_neg e]
    split
    · rw [get_put h, if_neg e]
    · rfl
theorem both_other {f : Itm → Itm → Bool} (b : List Itm) : ∀ {a : List Itm} {id : ByteArray}, RiseI a → (∀ i ∈ b, i.id ≠ id) → getI (bothI f a b) id = getI a id := by
  induction b with
  | nil => intro a id _ _; rfl
  | cons y b ih =>
    intro a id h hn
    have h' : getI (bothI f (stepI f a y) b) id = getI (stepI f a y) id := ih (step_rise h) fun i hi => hn i (by simp [hi])
    have : bothI f a (y :: b) = bothI f (stepI f a y) b := rfl
    rw [this, h', get_step h, if_neg (fun e => hn y (by simp) e.symm)]
theorem get_both {f : Itm → Itm → Bool} (b : List Itm) : ∀ {a : List Itm} (id : ByteArray), RiseI a → RiseI b → getI (bothI f a b) id = if (getI b id).2 = true then (if (!(getI a id).2 || f (getI b id).1 (getI a id).1) = true then ((getI b id).1, true) else getI a id) else getI a id := by
  induction b with
  | nil => intro a id _ _; rw [show getI [] id = (Itm.zero, false) from rfl]; rfl
  | cons y b ih =>
    intro a id ha hb
    rw [riseI_cons] at hb
    have e0 : bothI f a (y :: b) = bothI f (stepI f a y) b := rfl
    by_cases e : id = y.id
    · have hn : ∀ i ∈ b, i.id ≠ id := by
        intro i hi e'
        have := hb.1 i hi
        rw [e', e, ls_irr] at this; cases this
      have hg : getI (y :: b) id = (y, true) := get_some (riseI_cons.2 hb) (by simp) e.symm
      rw [e0, both_other b (step_rise ha) hn, get_step ha, if_pos e, hg, if_pos rfl]
    · have hg : getI (y :: b) id = getI b id := get_same hb.2 fun i hi => by
        constructor
        · intro h; simp [h]
        · intro h
          rcases List.mem_cons.1 h with rfl | h
          · exact absurd hi.symm e
          · exact h
      rw [e0, ih id (step_rise ha) hb.2, hg, get_step ha, if_neg e]
end Go.Proofs.YtjkcooakddlppaaGreat
/- '==' of two items. No walk. -/
namespace Go.Proofs.YtjkcooakddlppaaGreat
set_option linter.unusedVariables false
set_option linter.unusedSimpArgs false
set_option maxRecDepth 100000
open Go.RowKit
def eqT (a b : Itm) : Bool := (a.id.toList == b.id.toList) && ((a.r == b.r && a.c == b.c) && ((a.st == b.st) && ((a.kd.toList == b.kd.toList) && ((a.num == b.num) && ((feq a.x b.x && feq a.y b.y) && (a.d == b.d))))))
theorem eqT_self {a : Itm} (hx : feq a.x a.x = true) (hy : feq a.y a.y = true) : eqT a a = true := by
  unfold eqT; simp [hx, hy]
end Go.Proofs.YtjkcooakddlppaaGreat
/- What is known: the document's Names, walked. -/
namespace Go.Proofs.YtjkcooakddlppaaGreat
set_option linter.unusedVariables false
set_option linter.unusedSimpArgs false
set_option maxRecDepth 100000
open Go.RowKit
def NmRel (F : Nat → List ByteArray) (len : Nat) (X : Array Value) (w : World) (lv iv : Value) (wr : World) : Prop :=
  ∃ (k : Nat) (sv : Value), k ≤ len ∧ iv = .int .i64 k ∧ sv = lv ∧ Hid (OwnT wr w.heap.size (insAll (F k)) sv) ∧ Hid (Has wr w.heap.size X) ∧ Hid (Below w.heap.size w wr)
theorem flat_snoc {l : List Fr} {k : Nat} {f : Fr} (h : l[k]? = some f) : flatI (l.take (k + 1)) = flatI (l.take k) ++ f.ids := by
  unfold flatI; rw [takeT h, List.flatMap_append]; simp
theorem flat_take_sub {l : List Fr} {k : Nat} {s : ByteArray} (h : s ∈ flatI (l.take k)) : s ∈ flatI l := by
  unfold flatI at *
  rw [List.mem_flatMap] at *
  obtain ⟨f, hf, hs⟩ := h
  exact ⟨f, List.mem_of_mem_take hf, hs⟩
theorem flat_len {l : List Fr} {k : Nat} : (flatI (l.take k)).length ≤ (flatI l).length := by
  have h : flatI l = flatI (l.take k) ++ flatI (l.drop k) := by unfold flatI; rw [← List.flatMap_append, List.take_append_drop]
  rw [h, List.length_append]; omega
theorem fr_ok {w : World} {l : List Fr} {U : Nat → Value} {oa : Option Addr} {cap b o : Nat} (h : FrAt w l U oa cap b o) : ∀ s ∈ flatI l, s.size ≤ maxLen := by
  intro s hs
  unfold flatI at hs
  rw [List.mem_flatMap] at hs
  obtain ⟨f, hf, hs⟩ := hs
  obtain ⟨k, hk, e⟩ := List.mem_iff_getElem.1 hf
  exact (h.ids k f (by rw [List.getElem?_eq_getElem hk, e])).ok s hs
set_option maxRecDepth 100000 in
set_option maxHeartbeats 4000000 in
theorem names_calls (l : List Fr) (A : Nat → Int) (v : Value) (w : World) (hR : FrW w l v) (hlen : (flatI l).length ≤ 10000) :
    Calls Tryz.prog 127 #[knV A v] w fun e w' => ∃ v', e = .returned v' ∧ OwnT w' w.heap.size (insAll (flatI l)) v' ∧ Below w.heap.size w w' := by
  obtain ⟨U, oa, cap, b, o, rfl, hr⟩ := hR
  have HR := Lib.hid hr
  have HOK := Lib.hid (fr_ok hr)
  have hcap := hr.len
  have hmax := hr.max
  unfold maxLen at hmax
  clear hr
  have HFL := Lib.hid hlen
  clear hlen
  generalize hn : l.length = len at *
  have HN := Lib.hid hn
  clear hn
  go_enter Tryz.func127, Tryz.ntmps127
  go_wp2_with fail
  go_loopw [3, 4] (fun lv iv wr => NmRel (fun k => flatI (l.take k)) len (knA A (.slice oa len cap)) w lv iv wr) (fun _ iv _ => len - (intOf iv).toNat)
  case atStart => exact ⟨0, _, Nat.zero_le _, rfl, rfl, by unfold Hid; exact OwnT.nil _ _, by unfold Hid; exact Has.new _ _ _, by unfold Hid; exact (Below.refl _ _).alloc (Nat.le_refl _) _⟩
  case round =>
    obtain ⟨k, sv, hk, rfl, rfl, HO, HX, HB⟩ := hrel
    replace HO := Lib.hid (show OwnT wr w.heap.size (insAll (flatI (l.take k))) sv from HO.out)
    have l1 := HX.out.cell
    have z1 := HX.out.lt
    by_cases hlt : k < len
    · obtain ⟨f, hf⟩ : ∃ f, l[k]? = some f := ⟨_, List.getElem?_eq_getElem (by rw [HN.out]; exact hlt)⟩
      obtain ⟨rfl, hb0⟩ := HR.out.at0 (by rw [HN.out]; omega)
      obtain ⟨ou, cu, bu, oo, hu, ht⟩ := HR.out.ids k f hf
      obtain ⟨c0, _⟩ := fc_cells (w := wr) (fun j z hz => (HB.out.cell (p := ⟨b, o + k * 9 + j, none⟩) hb0).trans (HR.out.cell k f hf j z hz))
      rw [hu] at c0
      have hcu := ht.len
      have hmu := ht.max
      unfold maxLen at hmu
      have HT := Lib.hid ht
      have HF := Lib.hid hf
      have HU := Lib.hid hu
      clear ht hf hu
      generalize hn2 : f.ids.length = nf at *
      have HNF := Lib.hid hn2
      clear hn2
      have zb := Nat.lt_of_lt_of_le hb0 HB.out.size
      go_wp2_with fail
      clear l1 z1 c0 zb
      go_loopw [3, 5] (fun lv iv wr => NmRel (fun j => flatI (l.take k) ++ f.ids.take j) nf (knA A (.slice (some ⟨b, o, none⟩) len cap)) w lv iv wr) (fun _ iv _ => nf - (intOf iv).toNat)
      case atStart => exact ⟨0, _, Nat.zero_le _, rfl, rfl, by unfold Hid; simp only [List.take_zero, List.append_nil]; exact HO.out, HX, HB⟩
      case round =>
        clear HO HX HB
        obtain ⟨j, sv, hj, rfl, rfl, HO, HX, HB⟩ := hrel
        replace HO := Lib.hid (show OwnT wr w.heap.size (insAll (flatI (l.take k) ++ f.ids.take j)) sv from HO.out)
        have l1 := HX.out.cell
        have z1 := HX.out.lt
        obtain ⟨c0, _⟩ := fc_cells (w := wr) (fun j z hz => (HB.out.cell (p := ⟨b, o + k * 9 + j, none⟩) hb0).trans (HR.out.cell k f HF.out j z hz))
        rw [HU.out] at c0
        have zb := Nat.lt_of_lt_of_le hb0 HB.out.size
        by_cases hjt : j < nf
        · obtain ⟨s, hs⟩ : ∃ s, f.ids[j]? = some s := ⟨_, List.getElem?_eq_getElem (by rw [HNF.out]; exact hjt)⟩
          obtain ⟨rfl, hb1⟩ := HT.out.at0 (by rw [HNF.out]; omega)
          have d0 := (HB.out.cell (p := ⟨bu, oo + j, none⟩) hb1).trans (HT.out.cell j s hs)
          have zu := Nat.lt_of_lt_of_le hb1 HB.out.size
          have hsub : ∀ x ∈ flatI (l.take k) ++ f.ids.take j, x ∈ flatI l := by
            intro x hx
            rcases List.mem_append.1 hx with hx | hx
            · exact flat_take_sub hx
            · unfold flatI; rw [List.mem_flatMap]; exact ⟨f, List.mem_of_getElem? HF.out, List.mem_of_mem_take hx⟩
          have hle : (insAll (flatI (l.take k) ++ f.ids.take j)).length ≤ 10000 := by
            have h1 := len_all (flatI (l.take k) ++ f.ids.take j)
            have h2 := flat_len (l := l) (k := k + 1)
            rw [flat_snoc HF.out] at h2
            have h3 := HFL.out
            simp only [List.length_append, List.length_take] at h1 h2
            omega
          have C := Lib.hid (insert_calls _ s sv wr (HO.out.tx fun x hx => HOK.out x (hsub x (mem_all.1 hx))) hle)
          have HS := Lib.hid (show insAll (flatI (l.take k) ++ f.ids.take (j + 1)) = insB (insAll (flatI (l.take k) ++ f.ids.take j)) s by rw [takeT hs, ← List.append_assoc, insAll_snoc])
          clear hs hsub hle
          go_wp2_with (go_at_call 161; refine C.out.mono ?_; rintro e w2 ⟨v2, rfl, ho2, hb2⟩)
          have HO2 := Lib.hid (ho2.mono (base' := w.heap.size) HB.out.size)
          have HX2 := Lib.hid (HX.out.below hb2 HX.out.lt)
          have HB2 := Lib.hid (HB.out.trans (hb2.mono HB.out.size))
          clear ho2 hb2
          go_roundw
          case rel => exact ⟨j + 1, _, by omega, by go_num, rfl, Lib.hid (by show OwnT _ _ (insAll (flatI (l.take k) ++ f.ids.take (j + 1))) _; rw [HS.out]; exact HO2.out), HX2, HB2⟩
          case measure => simp [intOf]; omega
        · have e : nf = j := by omega
          have h1 := HO.out
          rw [show f.ids.take j = f.ids from List.take_of_length_le (by rw [HNF.out]; omega), ← flat_snoc HF.out] at h1
          have HO := Lib.hid h1
          clear h1
          go_wp2_with fail
          go_roundw
          case rel => exact ⟨k + 1, _, by omega, by go_num, rfl, HO, HX, HB⟩
          case measure => simp [intOf]; omega
    · have e : len = k := by omega
      have h1 := HO.out
      rw [List.take_of_length_le (by rw [HN.out]; omega)] at h1
      have HO := Lib.hid h1
      clear h1
      go_wp2_with fail
      go_ret
      exact ⟨_, rfl, HO.out, HB.out⟩
end Go.Proofs.YtjkcooakddlppaaGreat
/- How far two places are apart: the document's answer, walked. -/
namespace Go.Proofs.YtjkcooakddlppaaGreat
set_option linter.unusedVariables false
set_option linter.unusedSimpArgs false
set_option maxRecDepth 100000
open Go.RowKit
set_option maxHeartbeats 1000000 in
theorem refFar_calls (a b c d : Nat) (w : World) :
    Calls Tryz.prog 103 #[.complex .f64 a b, .complex .f64 c d] w fun e w' => e = .returned (.int .i64 (farV a b c d)) ∧ w = w' := by
  unfold farV
  have H1 := Lib.hid (place_calls a b w)
  have H2 := Lib.hid (place_calls c d w)
  cases h1 : mayB a b
  · have h1' := Lib.hid h1
    clear h1
    generalize mayB c d = q at *
    go_enter Tryz.func103, Tryz.ntmps103
    go_wp2_with fail
    refine ((H1).out).mono ?_
    rw [h1'.out]; rintro e w' ⟨rfl, rfl⟩
    go_wp2_with fail
    refine ((H2).out).mono ?_
    rintro e w' ⟨rfl, rfl⟩
    go_wp2
    go_ret
    exact ⟨rfl, rfl⟩
  · cases h2 : mayB c d
    · have h1' := Lib.hid h1
      have h2' := Lib.hid h2
      clear h1 h2
      go_enter Tryz.func103, Tryz.ntmps103
      go_wp2_with fail
      refine ((H1).out).mono ?_
      rw [h1'.out]; rintro e w' ⟨rfl, rfl⟩
      go_wp2_with fail
      refine ((H2).out).mono ?_
      rw [h2'.out]; rintro e w' ⟨rfl, rfl⟩
      go_wp2
      go_ret
      exact ⟨rfl, rfl⟩
    · obtain ⟨ia, ib, ba, bb⟩ := may_parts h1
      obtain ⟨ic, id, bc, bd⟩ := may_parts h2
      have k1 := run_convert_float_int (P := Tryz.prog) w 22 3 .f64 .i64 a _ (by kernel_rfl) (by kernel_rfl) (Fl.toIntVal_int ia (by omega))
      have k2 := run_convert_float_int (P := Tryz.prog) w 22 3 .f64 .i64 b _ (by kernel_rfl) (by kernel_rfl) (Fl.toIntVal_int ib (by omega))
      have k3 := run_convert_float_int (P := Tryz.prog) w 22 3 .f64 .i64 c _ (by kernel_rfl) (by kernel_rfl) (Fl.toIntVal_int ic (by omega))
      have k4 := run_convert_float_int (P := Tryz.prog) w 22 3 .f64 .i64 d _ (by kernel_rfl) (by kernel_rfl) (Fl.toIntVal_int id (by omega))
      simp only [Bool.and_self, if_true]
      clear ia ib ic id
      generalize Fl.iv a = x at *
      generalize Fl.iv b = y at *
      generalize Fl.iv c = z at *
      generalize Fl.iv d = u at *
      have hp1 : -2000 ≤ x - z := by omega
      have hp2 : x - z ≤ 2000 := by omega
      have hq1 : -2000 ≤ y - u := by omega
      have hq2 : y - u ≤ 2000 := by omega
      obtain ⟨sp1, sp2⟩ := sq_bd hp1 hp2
      obtain ⟨sq1, sq2⟩ := sq_bd hq1 hq2
      have x1 : -1000 ≤ x := by omega
      have x2 : x ≤ 1000 := by omega
      have y1 : -1000 ≤ y := by omega
      have y2 : y ≤ 1000 := by omega
      have z1 : -1000 ≤ z := by omega
      have z2 : z ≤ 1000 := by omega
      have u1 : -1000 ≤ u := by omega
      have u2 : u ≤ 1000 := by omega
      clear ba bb bc bd
      have h1' := Lib.hid h1
      have h2' := Lib.hid h2
      clear h1 h2
      go_enter Tryz.func103, Tryz.ntmps103
      go_wp2_with fail
      refine ((H1).out).mono ?_
      rw [h1'.out]; rintro e w' ⟨rfl, rfl⟩
      go_wp2_with fail
      refine ((H2).out).mono ?_
      rw [h2'.out]; rintro e w' ⟨rfl, rfl⟩
      go_wp2
      go_ret
      exact ⟨rfl, rfl⟩
end Go.Proofs.YtjkcooakddlppaaGreat
