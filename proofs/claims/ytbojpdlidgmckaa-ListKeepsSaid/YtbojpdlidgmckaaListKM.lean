/- ListKeeps: its mathematics. No walk. -/
import Derived.Test.YtbojpdlidgmckaaListW
import Derived.Test.YtbojpdlidgmckaaItemEq
namespace Go.Proofs.Ytbojpdlidgmckaa
set_option linter.unusedVariables false
set_option linter.unusedSimpArgs false
open Go.RowKit

theorem mayLB_iff {l : List Itm} : mayLB l = true ↔ (∀ i ∈ l, mayT i = true) ∧ RiseI l := by
  unfold mayLB
  rw [Bool.and_eq_true, rises_rise, List.all_eq_true]
theorem may_put {l : List Itm} {x : Itm} (h : mayLB l = true) (hx : mayT x = true) : mayLB (putI l x) = true := by
  rw [mayLB_iff] at *
  refine ⟨fun i hi => ?_, put_rise h.2⟩
  rcases put_mem hi with h1 | h1
  · exact h.1 i h1
  · rw [h1]; exact hx
theorem may_filter {l : List Itm} {p : Itm → Bool} (h : mayLB l = true) : mayLB (l.filter p) = true := by
  rw [mayLB_iff] at *
  exact ⟨fun i hi => h.1 i (List.mem_filter.1 hi).1, riseI_filter h.2⟩
theorem may_both {l m : List Itm} {f : Itm → Itm → Bool} (h : mayLB l = true) (h' : mayLB m = true) : mayLB (bothI f l m) = true := by
  rw [mayLB_iff] at *
  refine ⟨fun i hi => ?_, both_rise m h.2⟩
  rcases both_mem m hi with h1 | h1
  · exact h.1 i h1
  · exact h'.1 i h1
theorem eqT_may {i : Itm} (h : mayT i = true) : eqT i i = true := eqT_self (mayT_feq h).1 (mayT_feq h).2
/-- What is got, in each way that may be. -/
def Ways (same : Bool) (had kept all other : Itm) (was is there beside : Bool) : Prop :=
  (was = false ∧ is = false ∧ beside = false ∧ there = false) ∨
  (was = true ∧ beside = false ∧ there = true ∧ all = had ∧ eqT had had = true ∧ ((same = true ∧ is = false) ∨ (same = false ∧ is = true ∧ kept = had))) ∨
  (was = false ∧ is = false ∧ beside = true ∧ there = true ∧ all = other ∧ eqT other other = true) ∨
  (was = true ∧ beside = true ∧ there = true ∧ eqT had had = true ∧ eqT other other = true ∧ ((behT other had = true ∧ all = other) ∨ (behT other had = false ∧ all = had)) ∧ ((same = true ∧ is = false) ∨ (same = false ∧ is = true ∧ kept = had)))
theorem ways {a b : List Itm} {c : Itm} (ha : mayLB a = true) (hb : mayLB b = true) (id : ByteArray) :
    Ways (id.toList == c.id.toList) (getI a id).1 (getI ((putI a c).filter (neB c.id)) id).1 (getI (bothI behT a b) id).1 (getI b id).1 (getI a id).2 (getI ((putI a c).filter (neB c.id)) id).2 (getI (bothI behT a b) id).2 (getI b id).2 := by
  rw [mayLB_iff] at ha hb
  have hd : getI ((putI a c).filter (neB c.id)) id = if id = c.id then (Itm.zero, false) else getI a id := by
    rw [get_drop (put_rise ha.2)]
    split
    · rfl
    · rename_i h; rw [get_put ha.2, if_neg h]
  rw [hd, get_both b id ha.2 hb.2]
  have e2 : (id.toList == c.id.toList) = decide (id = c.id) := by
    cases h : (id.toList == c.id.toList)
    · rw [decide_eq_false (tl_ne.1 h)]
    · rw [decide_eq_true (tl_eq.1 h)]
  rw [e2]
  unfold Ways
  rcases get_cases a id with ⟨i, hi, _, e⟩ | ⟨_, e⟩ <;> rcases get_cases b id with ⟨j, hj, _, e'⟩ | ⟨_, e'⟩ <;> rw [e, e'] <;> by_cases hq : id = c.id
  · cases h : behT j i <;> simp [hq, h, eqT_may (ha.1 i hi), eqT_may (hb.1 j hj)]
  · cases h : behT j i <;> simp [hq, h, eqT_may (ha.1 i hi), eqT_may (hb.1 j hj)]
  · simp [hq, eqT_may (ha.1 i hi)]
  · simp [hq, eqT_may (ha.1 i hi)]
  · simp [hq, eqT_may (hb.1 j hj)]
  · simp [hq, eqT_may (hb.1 j hj)]
  · simp [hq]
  · simp [hq]
/-- The same, as the walk meets it. -/
def Ways2 (same : Bool) (had kept all other : Itm) (was is there beside : Bool) : Prop :=
  ((was = false ∧ is = false ∧ beside = false ∧ there = false) ∨ (was = false ∧ is = false ∧ beside = true ∧ there = true ∧ behT other all = false ∧ eqT all other = true)) ∨
  (((was = true ∧ beside = false ∧ there = true ∧ behT had all = false ∧ eqT all had = true) ∨ (was = true ∧ beside = true ∧ there = true ∧ behT had all = false ∧ behT other all = false ∧ (eqT all had = true ∨ (eqT all had = false ∧ eqT all other = true)))) ∧
   ((same = true ∧ is = false) ∨ (same = false ∧ is = true ∧ eqT kept had = true)))
theorem Ways.two {same : Bool} {had kept all other : Itm} {was is there beside : Bool} (h : Ways same had kept all other was is there beside) : Ways2 same had kept all other was is there beside := by
  rcases h with h | ⟨h1, h2, h3, h4, h5, h6⟩ | ⟨h1, h2, h3, h4, h5, h6⟩ | ⟨h1, h2, h3, h4, h5, h6, h7⟩
  · exact .inl (.inl h)
  · refine .inr ⟨.inl ⟨h1, h2, h3, by rw [h4]; exact beh_self _, by rw [h4]; exact h5⟩, ?_⟩
    rcases h6 with h6 | ⟨a, b, c⟩
    · exact .inl h6
    · exact .inr ⟨a, b, by rw [c]; exact h5⟩
  · exact .inl (.inr ⟨h1, h2, h3, h4, by rw [h5]; exact beh_self _, by rw [h5]; exact h6⟩)
  · refine .inr ⟨.inr ⟨h1, h2, h3, ?_⟩, ?_⟩
    · rcases h6 with ⟨a, b⟩ | ⟨a, b⟩
      · refine ⟨by rw [b]; exact beh_not a, by rw [b]; exact beh_self _, ?_⟩
        cases q : eqT all had
        · exact .inr ⟨rfl, by rw [b]; exact h5⟩
        · exact .inl rfl
      · exact ⟨by rw [b]; exact beh_self _, by rw [b]; exact a, .inl (by rw [b]; exact h4)⟩
    · rcases h7 with h7 | ⟨a, b, c⟩
      · exact .inl h7
      · exact .inr ⟨a, b, by rw [c]; exact h4⟩
theorem RowAt.take {sz : Nat} {f : Itm → List Value} {w : World} {l : List Itm} {oa : Option Addr} {cap b o : Nat} (h : RowAt sz f w l oa cap b o) (k : Nat) : RowAt sz f w (l.take k) oa cap b o := by
  refine ⟨by rw [List.length_take]; have := h.len; omega, h.max, fun h0 => h.at0 (by rw [List.length_take] at h0; omega), fun j i hj => ?_, fun i hi => h.ok i (List.mem_of_mem_take hi)⟩
  rw [List.getElem?_take] at hj
  split at hj
  · exact h.cell j i hj
  · cases hj
theorem Row.take {sz : Nat} {f : Itm → List Value} {w : World} {l : List Itm} {oa : Option Addr} {n cap : Nat} (h : Row sz f w l (.slice oa n cap)) (k : Nat) : Row sz f w (l.take k) (.slice oa (l.take k).length cap) := by
  obtain ⟨oa', cap', b, o, e, hr⟩ := h
  cases e
  exact ⟨oa, cap, b, o, rfl, hr.take k⟩
theorem Row.cap {sz : Nat} {f : Itm → List Value} {w : World} {l : List Itm} {oa : Option Addr} {n cap : Nat} (h : Row sz f w l (.slice oa n cap)) : l.length ≤ cap ∧ cap ≤ maxLen := by
  obtain ⟨oa', cap', b, o, e, hr⟩ := h
  cases e
  exact ⟨hr.len, hr.max⟩
end Go.Proofs.Ytbojpdlidgmckaa
