/- What the arguments of the laws read as: counts of replicas, versions. -/
import Derived.Test.YthhbjgecdhogoaaOpenA
import Derived.Test.YthhbjgecdhogoaaVecM
namespace Go.Proofs.Ythhbjgecdhogoaa
set_option linter.unusedVariables false
set_option linter.unusedSimpArgs false
open Go.ChangeShapes Go.WideShapes Go.ChangeAt Go.RowKit Go.Deep

section
variable {H : Type} {enc : TypeId × Value → H} {w : World} {base : Nat} {spare : Nat → Bool} {held : Bool} {fuel : Nat} {cs : List Value} {x : DataW H × List MemPlace}
theorem okWide_array {P : Program} {r : Reach} {b0 n : Nat} {e t : TypeId} {v : Value} (ht : P.underlying t = some (.array n e)) (h : Value.okWide P w r b0 t v) : ∃ cs, v = .agg cs ∧ cs.size = P.cellsOf t := by
  simp only [Value.okWide, ht] at h
  obtain ⟨cs, h1, h2, _⟩ := h
  exact ⟨cs, h1, h2⟩

set_option maxRecDepth 100000 in
/-- Cells of counts. -/
theorem trod_vec (h : DataW.trod enc Try.prog w base spare held fuel 23 cs = some x) : ∃ A : Nat → Int, cs = (arr8 A).toList := by
  obtain ⟨xs, n, _, ex, hl, hlen, hel⟩ := DataW.trod_array Try.underlying23 h
  have hl' : cs.length = 8 := hl.trans (by kernel_rfl)
  have hc : Try.prog.cellsOf 3 = 1 := by kernel_rfl
  have F : ∀ i, i < 8 → ∃ z : Int, cs[i]? = some (.int .i64 z) := by
    intro i hi
    have h1 := hel i hi
    rw [hc, Nat.mul_one, List.drop_eq_getElem_cons (by omega)] at h1
    have h2 : xs[i]? = some (xs[i]'(by omega)) := List.getElem?_eq_getElem (by omega)
    obtain ⟨z, k, _⟩ := DataW.trod_int Try.underlying3 (h1.trans h2)
    simp only [List.take_succ_cons, List.take_zero, List.cons.injEq, and_true] at k
    exact ⟨z, by rw [List.getElem?_eq_getElem (by omega), k]⟩
  have G : ∃ A : Nat → Int, ∀ i, i < 8 → cs[i]? = some (.int .i64 (A i)) :=
    ⟨fun i => if h : i < 8 then Classical.choose (F i h) else 0, fun i hi => by simp only [dif_pos hi]; exact Classical.choose_spec (F i hi)⟩
  obtain ⟨A, hA⟩ := G
  refine ⟨A, List.ext_getElem? fun i => ?_⟩
  by_cases hi : i < 8
  · rw [hA i hi, Array.getElem?_toList, arr_get A hi]
  · rw [List.getElem?_eq_none (by omega), List.getElem?_eq_none (by simp; omega)]
set_option maxRecDepth 100000 in
theorem open_vec {r : Reach} {b0 : Nat} {v : Value} {d : DataW H} {p : List MemPlace} (hv : Value.okWide Try.prog w r b0 23 v) (h : DataW.Trod enc Try.prog w base spare held 23 v d p) :
    ∃ A : Nat → Int, v = vecV A := by
  obtain ⟨l, rfl, hsz⟩ := okWide_array Try.underlying23 hv
  obtain ⟨f, hf⟩ := h
  obtain ⟨A, e⟩ := trod_vec hf
  refine ⟨A, ?_⟩
  obtain ⟨l⟩ := l
  have : l = _ := e
  rw [this]
set_option maxRecDepth 100000 in
theorem trod_ver (h : DataW.trod enc Try.prog w base spare held fuel 28 cs = some x) : ∃ r c : Int, cs = [.int .i64 r, .int .i64 c] := by
  obtain ⟨xs, n, hn, hx, hl, hxl, hf⟩ := DataW.trod_struct Try.underlying28 h
  have hl' : cs.length = 2 := hl.trans (by kernel_rfl)
  have F := fun i f hi => field_at (P := Try.prog) (by kernel_rfl) (by rw [hl']; rfl) hxl hf i f hi
  match cs, hl' with
  | [c0, c1], _ =>
    obtain ⟨_, _, e0, t0⟩ := F 0 _ rfl
    obtain ⟨_, _, e1, t1⟩ := F 1 _ rfl
    obtain ⟨s0, k0, _⟩ := DataW.trod_int Try.underlying3 t0
    obtain ⟨s1, k1, _⟩ := DataW.trod_int Try.underlying3 t1
    simp only [List.cons.injEq, and_true] at k0 k1
    simp at e0 e1
    subst e0 e1 k0 k1
    exact ⟨s0, s1, rfl⟩
set_option maxRecDepth 100000 in
theorem open_ver {r : Reach} {b0 : Nat} {v : Value} {d : DataW H} {p : List MemPlace} (hv : Value.okWide Try.prog w r b0 28 v) (h : DataW.Trod enc Try.prog w base spare held 28 v d p) :
    ∃ r c : Int, v = .agg #[.int .i64 r, .int .i64 c] := by
  obtain ⟨l, rfl, hsz⟩ := okWide_struct Try.underlying28 hv
  obtain ⟨f, hf⟩ := h
  obtain ⟨r, c, e⟩ := trod_ver hf
  refine ⟨r, c, ?_⟩
  obtain ⟨l⟩ := l
  have : l = _ := e
  rw [this]
end

end Go.Proofs.Ythhbjgecdhogoaa
