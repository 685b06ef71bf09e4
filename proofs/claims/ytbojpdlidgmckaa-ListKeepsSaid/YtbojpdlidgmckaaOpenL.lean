/- What the arguments of the laws read as: rows of plain rows. -/
import Derived.Test.YtbojpdlidgmckaaOpen
import Derived.Test.YtbojpdlidgmckaaOpenS
import Derived.Test.YtbojpdlidgmckaaRowI
namespace Go.Proofs.Ytbojpdlidgmckaa
set_option linter.unusedVariables false
set_option linter.unusedSimpArgs false
open Go.ChangeShapes Go.WideShapes Go.ChangeAt Go.RowKit Go.Deep

section
variable {H : Type} {enc : TypeId × Value → H} {w : World} {base : Nat} {spare : Nat → Bool} {held : Bool} {fuel : Nat} {cs : List Value} {x : DataW H × List MemPlace}
set_option maxRecDepth 100000 in
theorem trod_rows (h : DataW.trod enc Try.prog w base spare held fuel 22 cs = some x) : ∃ (l : List Itm) (v : Value), cs = [v] ∧ Row 9 rc w l v := by
  rcases open_slice Try.underlying22 h with ⟨rfl, _⟩ | ⟨a, len, cap, m, n, D, Pl, rfl, _, hl, hm, hmm, _, hx⟩
  · exact ⟨[], _, rfl, none, 0, 0, 0, rfl, Nat.le_refl _, by decide, fun h => absurd h (by simp), fun k f hk => by simp at hk, fun i hi => by simp at hi⟩
  · have hlm : len ≤ m := by rw [hmm]; split <;> omega
    have hC : Try.prog.cellsOf 25 = 9 := by kernel_rfl
    rw [hC] at hx
    have key : ∀ i, i < len → ∃ (f : Itm), (∀ j z, (rc f)[j]? = some z → w.cell? (a.add (i * 9 + j)) = some z) ∧ f.id.size ≤ maxLen ∧ f.kd.size ≤ maxLen := by
      intro i hi
      obtain ⟨cs', h2, h3⟩ := hx i (by omega)
      obtain ⟨_, hcl, hat⟩ := World.cells?_some h2
      obtain ⟨id, r, c, st, kd, n, x, y, d, rfl, h4, h5, _⟩ := trod_row h3
      refine ⟨⟨id, r, c, st, kd, n, x, y, d⟩, fun j z hz => ?_, h4, h5⟩
      have hj : j < 9 := (List.getElem?_eq_some_iff.1 hz).1
      rw [← Go.Deep.add_add, hat j hj, hz]
    classical
    let F : Nat → Itm := fun i => if h : i < len then (key i h).choose else Itm.zero
    have hF : ∀ i, i < len → (∀ j z, (rc (F i))[j]? = some z → w.cell? (a.add (i * 9 + j)) = some z) ∧ (F i).id.size ≤ maxLen ∧ (F i).kd.size ≤ maxLen := by
      intro i hi
      have := (key i hi).choose_spec
      simp only [F, dif_pos hi]
      exact this
    have hlk : ((List.range len).map F).length = len := by simp
    have hs : 0 < len → a.spot = none ∧ a.block < w.heap.size := by
      intro h0
      have h1 := (hF 0 h0).1 0 _ rfl
      have e : a.add (0 * 9 + 0) = a := by simp [Addr.add]
      rw [e] at h1
      exact ⟨World.cell?_spot h1, World.block_lt_of_cell? w _ h1⟩
    refine ⟨(List.range len).map F, _, rfl, some a, cap, a.block, a.off, by rw [hlk], by rw [hlk]; exact hl, hm, fun h => ?_, fun k f hk j z hz => ?_, fun f hf => ?_⟩
    · rw [hlk] at h
      exact ⟨congrArg some (addr_lit (hs h).1), (hs h).2⟩
    · obtain ⟨hk', rfl⟩ := map_range F hk
      have h1 := (hF k hk').1 j z hz
      rw [addr_at (hs (by omega)).1] at h1
      rw [Nat.add_assoc]; exact h1
    · obtain ⟨k, hk, e⟩ := List.mem_iff_getElem.1 hf
      obtain ⟨hk', rfl⟩ := map_range F (by rw [List.getElem?_eq_getElem hk, e])
      exact (hF k hk').2

set_option maxRecDepth 100000 in
/-- An argument that is rows. -/
theorem open_rows {r : Reach} {b0 : Nat} {v : Value} {d : DataW H} {p : List MemPlace} (hv : Value.okWide Try.prog w r b0 22 v) (h : DataW.Trod enc Try.prog w base spare held 22 v d p) :
    ∃ (l : List Itm), Row 9 rc w l v := by
  obtain ⟨a, len, cap, rfl⟩ := okWide_slice Try.underlying22 hv
  obtain ⟨f, hf⟩ := h
  obtain ⟨l, u, e, hl⟩ := trod_rows hf
  have e' : Value.slice a len cap = u := by simpa [Value.cells] using e
  rw [e']
  exact ⟨l, hl⟩
end

end Go.Proofs.Ytbojpdlidgmckaa
