/- Rows of whatever, as arguments are read. No walk. -/
import Derived.Test.YteofkbidahefeaaOpenA
import Derived.Test.YteofkbidahefeaaOpenS
namespace Go.Proofs.Yteofkbidahefeaa
set_option linter.unusedVariables false
set_option linter.unusedSimpArgs false
set_option maxRecDepth 100000
open Go.ChangeShapes Go.WideShapes Go.ChangeAt Go.RowKit Go.Deep

structure RGAt {α : Type} (sz : Nat) (f : α → List Value) (w : World) (l : List α) (oa : Option Addr) (cap b o : Nat) : Prop where
  len : l.length ≤ cap
  max : cap ≤ maxLen
  at0 : 0 < l.length → oa = some ⟨b, o, none⟩ ∧ b < w.heap.size
  cell : ∀ k x, l[k]? = some x → ∀ j u, (f x)[j]? = some u → w.cell? ⟨b, o + k * sz + j, none⟩ = some u
def RG {α : Type} (sz : Nat) (f : α → List Value) (w : World) (l : List α) (v : Value) : Prop := ∃ oa cap b o, v = .slice oa l.length cap ∧ RGAt sz f w l oa cap b o
section
variable {α : Type} {sz : Nat} {f : α → List Value} {w w' : World} {l : List α} {v : Value} {oa : Option Addr} {cap b o : Nat}
theorem RGAt.later (h : RGAt sz f w l oa cap b o) (hb : Below w.heap.size w w') : RGAt sz f w' l oa cap b o := by
  refine ⟨h.len, h.max, fun h0 => ⟨(h.at0 h0).1, Nat.lt_of_lt_of_le (h.at0 h0).2 hb.size⟩, fun k x hk j u hu => ?_⟩
  have hlt : b < w.heap.size := (h.at0 (by have := (List.getElem?_eq_some_iff.1 hk).1; omega)).2
  exact (hb.cell (p := ⟨b, o + k * sz + j, none⟩) hlt).trans (h.cell k x hk j u hu)
theorem RG.later (h : RG sz f w l v) (hb : Below w.heap.size w w') : RG sz f w' l v := by
  obtain ⟨oa, cap, b, o, e, h⟩ := h
  exact ⟨oa, cap, b, o, e, h.later hb⟩
end
section
variable {α : Type} {H : Type} {enc : TypeId × Value → H} {P : Program} {w : World} {base : Nat} {spare : Nat → Bool} {held : Bool} {fuel : Nat} {cs : List Value} {x : DataW H × List MemPlace}
set_option maxRecDepth 100000 in
/-- What a slice reads as, if its elements read as f of something. -/
theorem trod_row [Inhabited α] {t e : TypeId} (ht : P.underlying t = some (.slice e)) {sz : Nat} (hC : P.cellsOf e = sz) (h0 : 0 < sz) (f : α → List Value) (hf : ∀ a, (f a).length = sz) (ok : α → Prop)
    (el : ∀ fuel cs x, DataW.trod enc P w base spare held fuel e cs = some x → ∃ a, cs = f a ∧ ok a)
    (h : DataW.trod enc P w base spare held fuel t cs = some x) : ∃ (l : List α) (v : Value), cs = [v] ∧ RG sz f w l v ∧ ∀ a ∈ l, ok a := by
  rcases open_slice ht h with ⟨rfl, _⟩ | ⟨a, len, cap, m, n, D, Pl, rfl, _, hl, hm, hmm, _, hx⟩
  · exact ⟨[], _, rfl, ⟨none, 0, 0, 0, rfl, Nat.le_refl _, by decide, fun h => absurd h (by simp), fun k f hk => by simp at hk⟩, fun i hi => by simp at hi⟩
  · have hlm : len ≤ m := by rw [hmm]; split <;> omega
    rw [hC] at hx
    have key : ∀ i, i < len → ∃ (q : α), (∀ j z, (f q)[j]? = some z → w.cell? (a.add (i * sz + j)) = some z) ∧ ok q := by
      intro i hi
      obtain ⟨cs', h2, h3⟩ := hx i (by omega)
      obtain ⟨_, hcl, hat⟩ := World.cells?_some h2
      obtain ⟨d, rfl, hd⟩ := el _ _ _ h3
      refine ⟨d, fun j z hz => ?_, hd⟩
      have hj : j < sz := by have := (List.getElem?_eq_some_iff.1 hz).1; rw [hf] at this; exact this
      rw [← Go.Deep.add_add, hat j hj, hz]
    classical
    let F : Nat → α := fun i => if h : i < len then (key i h).choose else default
    have hF : ∀ i, i < len → (∀ j z, (f (F i))[j]? = some z → w.cell? (a.add (i * sz + j)) = some z) ∧ ok (F i) := by
      intro i hi
      have := (key i hi).choose_spec
      simp only [F, dif_pos hi]
      exact this
    have hlk : ((List.range len).map F).length = len := by simp
    have hs : 0 < len → a.spot = none ∧ a.block < w.heap.size := by
      intro h1
      have hlt : 0 < (f (F 0)).length := by rw [hf]; exact h0
      have h1 := (hF 0 h1).1 0 _ (List.getElem?_eq_getElem hlt)
      have e : a.add (0 * sz + 0) = a := by simp [Addr.add]
      rw [e] at h1
      exact ⟨World.cell?_spot h1, World.block_lt_of_cell? w _ h1⟩
    refine ⟨(List.range len).map F, _, rfl, ⟨some a, cap, a.block, a.off, by rw [hlk], by rw [hlk]; exact hl, hm, fun h => ?_, fun k q hk j z hz => ?_⟩, fun q hq => ?_⟩
    · rw [hlk] at h
      exact ⟨congrArg some (addr_lit (hs h).1), (hs h).2⟩
    · obtain ⟨hk', rfl⟩ := map_range F hk
      have h1 := (hF k hk').1 j z hz
      rw [addr_at (hs (by omega)).1] at h1
      rw [Nat.add_assoc]; exact h1
    · obtain ⟨k, hk, e⟩ := List.mem_iff_getElem.1 hq
      obtain ⟨hk', rfl⟩ := map_range F (by rw [List.getElem?_eq_getElem hk, e])
      exact (hF k hk').2
end

end Go.Proofs.Yteofkbidahefeaa
