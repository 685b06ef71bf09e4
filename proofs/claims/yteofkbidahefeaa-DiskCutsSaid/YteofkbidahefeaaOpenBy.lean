/- What the arguments of the laws read as: bytes. -/
import Derived.Test.YteofkbidahefeaaOpenA
import Derived.Test.YteofkbidahefeaaOpenS
import Derived.Test.YteofkbidahefeaaByW
import Derived.ChangeSlices
namespace Go.Proofs.Yteofkbidahefeaa
set_option linter.unusedVariables false
set_option linter.unusedSimpArgs false
set_option maxRecDepth 100000
open Go.ChangeShapes Go.WideShapes Go.ChangeAt Go.RowKit Go.Deep

section
variable {H : Type} {enc : TypeId × Value → H} {w : World} {base : Nat} {spare : Nat → Bool} {held : Bool} {fuel : Nat} {cs : List Value} {x : DataW H × List MemPlace}
set_option maxRecDepth 100000 in
theorem trod_by (h : DataW.trod enc Try.prog w base spare held fuel 26 cs = some x) : ∃ (l : List Nat) (v : Value), cs = [v] ∧ ByW w l v := by
  rcases open_ints Try.underlying26 Try.underlying5 (by kernel_rfl) h with ⟨rfl, _⟩ | ⟨a, len, cap, zs, rfl, _, hl, hm, hz, _, hc, hw⟩
  · exact ⟨[], _, rfl, ByW.nil _⟩
  · have hlz : len ≤ zs.length := by rw [hz]; split <;> omega
    have hcell : ∀ i, i < len → w.cell? (a.add i) = some (.int .u8 (zs.getD i 0)) := fun i hi => hc i (by omega)
    have hb : ∀ i, i < len → 0 ≤ zs.getD i 0 ∧ zs.getD i 0 < 256 := by
      intro i hi
      have e : zs.getD i 0 = zs[i]'(by omega) := by simp [List.getD, show i < zs.length by omega]
      have := bounds_u8 (hw _ (List.getElem_mem (show i < zs.length by omega)))
      rw [e]
      omega
    have hln : ((zs.take len).map Int.toNat).length = len := by simp; omega
    have hs : 0 < len → a.spot = none ∧ a.block < w.heap.size := by
      intro h0
      have h1 := hcell 0 h0
      have e : a.add 0 = a := by simp [Addr.add]
      rw [e] at h1
      exact ⟨World.cell?_spot h1, World.block_lt_of_cell? w _ h1⟩
    have hg : ∀ k n, ((zs.take len).map Int.toNat)[k]? = some n → k < len ∧ n = (zs.getD k 0).toNat := by
      intro k n hk
      have hk' := posB hk
      rw [hln] at hk'
      refine ⟨hk', ?_⟩
      simp only [List.getElem?_map, List.getElem?_take_of_lt hk', Option.map_eq_some_iff] at hk
      obtain ⟨z, hz, rfl⟩ := hk
      simp [List.getD, hz]
    refine ⟨(zs.take len).map Int.toNat, _, rfl, some a, cap, a.block, a.off, by rw [hln], by rw [hln]; exact hl, hm, fun h0 => ?_, fun k n hk => ?_, fun n hn => ?_⟩
    · rw [hln] at h0
      exact ⟨congrArg some (addr_lit (hs h0).1), (hs h0).2⟩
    · obtain ⟨hk', rfl⟩ := hg k n hk
      have h1 := hcell k hk'
      rw [addr_at (hs (by omega)).1] at h1
      rw [h1, Int.toNat_of_nonneg (hb k hk').1]
    · obtain ⟨k, hk⟩ := List.getElem?_of_mem hn
      obtain ⟨hk', rfl⟩ := hg k n hk
      have := hb k hk'
      omega

set_option maxRecDepth 100000 in
/-- An argument that is bytes. -/
theorem open_by {r : Reach} {b0 : Nat} {v : Value} {d : DataW H} {p : List MemPlace} (hv : Value.okWide Try.prog w r b0 26 v) (h : DataW.Trod enc Try.prog w base spare held 26 v d p) :
    ∃ (l : List Nat), ByW w l v := by
  obtain ⟨a, len, cap, rfl⟩ := okWide_slice Try.underlying26 hv
  obtain ⟨f, hf⟩ := h
  obtain ⟨l, u, e, hl⟩ := trod_by hf
  have e' : Value.slice a len cap = u := by simpa [Value.cells] using e
  rw [e']
  exact ⟨l, hl⟩
end

end Go.Proofs.Yteofkbidahefeaa
