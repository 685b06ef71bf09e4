/- Joined: OpenS, Open, LCM, OpenV, LCmp. -/
import Derived.Test.YtjepnaefkfkpcaaJ12
import Derived.Deep.Slices
import Derived.Test.YtjepnaefkfkpcaaJ06
import Derived.Test.YtjepnaefkfkpcaaJ03
/- Addresses of a row's cells; lists by their places. No walk. -/
namespace Go.Proofs.Ytjepnaefkfkpcaa
set_option linter.unusedVariables false
set_option linter.unusedSimpArgs false
set_option maxRecDepth 100000
open Go.ChangeShapes Go.WideShapes Go.ChangeAt Go.RowKit Go.Deep
theorem addr_at {a : Addr} (h : a.spot = none) (n : Nat) : a.add n = ⟨a.block, a.off + n, none⟩ := by
  obtain ⟨b, o, s⟩ := a
  simp only at h; subst h
  unfold Addr.add; split <;> simp_all
theorem addr_lit {a : Addr} (h : a.spot = none) : a = ⟨a.block, a.off, none⟩ := by
  obtain ⟨b, o, s⟩ := a
  simp only at h; subst h; rfl
theorem map_range {α : Type} (P : Nat → α) {n i : Nat} {q : α} (h : ((List.range n).map P)[i]? = some q) : i < n ∧ q = P i := by
  rw [List.getElem?_map] at h
  cases e : (List.range n)[i]? with
  | none => rw [e] at h; cases h
  | some k =>
    rw [e] at h
    obtain ⟨h1, h2⟩ := List.getElem?_eq_some_iff.1 e
    simp at h1 h2 h
    subst h2
    exact ⟨h1, h.symm⟩
end Go.Proofs.Ytjepnaefkfkpcaa
/- What the arguments of the laws read as: rows opened to their cells. -/
namespace Go.Proofs.Ytjepnaefkfkpcaa
set_option linter.unusedVariables false
set_option linter.unusedSimpArgs false
set_option maxRecDepth 100000
open Go.ChangeShapes Go.WideShapes Go.ChangeAt Go.RowKit Go.Deep
section
variable {H : Type} {enc : TypeId × Value → H} {w : World} {base : Nat} {spare : Nat → Bool} {held : Bool} {fuel : Nat} {cs : List Value} {x : DataW H × List MemPlace}
def RowCells (cs : List Value) : Prop := ∃ (id : ByteArray) (r c st : Int) (kd : ByteArray) (n : Int) (x y : Nat) (d : Bool),
  cs = [.string id, .int .i64 r, .int .i64 c, .int .i64 st, .string kd, .int .i64 n, .float .f64 x, .float .f64 y, .bool d] ∧ id.size ≤ maxLen ∧ kd.size ≤ maxLen ∧
  (Lit.int .i64 r).wf = true ∧ (Lit.int .i64 c).wf = true ∧ (Lit.int .i64 st).wf = true ∧ (Lit.int .i64 n).wf = true
set_option maxRecDepth 100000 in
theorem trod_row (h : DataW.trod enc Try.prog w base spare held fuel 91 cs = some x) : RowCells cs := by
  obtain ⟨xs, n, hn, hx, hl, hxl, hf⟩ := DataW.trod_struct Try.underlying91 h
  have hl' : cs.length = 9 := hl.trans (by kernel_rfl)
  have F := fun i f hi => field_at (P := Try.prog) (by kernel_rfl) (by rw [hl']; rfl) hxl hf i f hi
  match cs, hl' with
  | [c0, c1, c2, c3, c4, c5, c6, c7, c8], _ =>
    obtain ⟨_, _, e0, t0⟩ := F 0 _ rfl
    obtain ⟨_, _, e1, t1⟩ := F 1 _ rfl
    obtain ⟨_, _, e2, t2⟩ := F 2 _ rfl
    obtain ⟨_, _, e3, t3⟩ := F 3 _ rfl
    obtain ⟨_, _, e4, t4⟩ := F 4 _ rfl
    obtain ⟨_, _, e5, t5⟩ := F 5 _ rfl
    obtain ⟨_, _, e6, t6⟩ := F 6 _ rfl
    obtain ⟨_, _, e7, t7⟩ := F 7 _ rfl
    obtain ⟨_, _, e8, t8⟩ := F 8 _ rfl
    obtain ⟨s0, k0, _, z0⟩ := DataW.trod_string Try.underlying9 t0
    obtain ⟨s1, k1, _, z1⟩ := DataW.trod_int Try.underlying3 t1
    obtain ⟨s2, k2, _, z2⟩ := DataW.trod_int Try.underlying3 t2
    obtain ⟨s3, k3, _, z3⟩ := DataW.trod_int Try.underlying3 t3
    obtain ⟨s4, k4, _, z4⟩ := DataW.trod_string Try.underlying9 t4
    obtain ⟨s5, k5, _, z5⟩ := DataW.trod_int Try.underlying3 t5
    obtain ⟨s6, k6⟩ := trod_float Try.underlying22 t6
    obtain ⟨s7, k7⟩ := trod_float Try.underlying22 t7
    obtain ⟨s8, k8, _⟩ := DataW.trod_bool Try.underlying4 t8
    simp only [List.cons.injEq, and_true] at k0 k1 k2 k3 k4 k5 k6 k7 k8
    simp at e0 e1 e2 e3 e4 e5 e6 e7 e8
    subst e0 e1 e2 e3 e4 e5 e6 e7 e8 k0 k1 k2 k3 k4 k5 k6 k7 k8
    exact ⟨s0, s1, s2, s3, s4, s5, s6, s7, s8, rfl, z0, z4, z1, z2, z3, z5⟩
end
end Go.Proofs.Ytjepnaefkfkpcaa
/- Lists of items, searched and merged as the code does it: plain mathematics. No walk. -/
namespace Go.Proofs.Ytjepnaefkfkpcaa
set_option linter.unusedVariables false
set_option linter.unusedSimpArgs false
set_option maxRecDepth 100000
open Go.RowKit
/-! ### Where an Id stands -/
/-! ### Two lists merged -/
end Go.Proofs.Ytjepnaefkfkpcaa
/- What the arguments of the laws read as: counts of replicas, versions. -/
namespace Go.Proofs.Ytjepnaefkfkpcaa
set_option linter.unusedVariables false
set_option linter.unusedSimpArgs false
set_option maxRecDepth 100000
open Go.ChangeShapes Go.WideShapes Go.ChangeAt Go.RowKit Go.Deep
section
variable {H : Type} {enc : TypeId × Value → H} {w : World} {base : Nat} {spare : Nat → Bool} {held : Bool} {fuel : Nat} {cs : List Value} {x : DataW H × List MemPlace}
set_option maxRecDepth 100000 in
theorem trod_vec (h : DataW.trod enc Try.prog w base spare held fuel 28 cs = some x) : ∃ A : Nat → Int, cs = (arr8 A).toList := by
  obtain ⟨xs, n, _, ex, hl, hlen, hel⟩ := DataW.trod_array Try.underlying28 h
  have hl' : cs.length = 8 := hl.trans (by kernel_rfl)
  have hc : Try.prog.cellsOf 3 = 1 := by kernel_rfl
  have F : ∀ i, i < 8 → ∃ z : Int, cs[i]? = some (.int .i64 z) := by
    intro i hi
    have h1 := hel i hi
    rw [hc, Nat.mul_one, List.drop_eq_getElem_cons (by omega)] at h1
    have h2 : xs[i]? = some (xs[i]'(by omega)) := List.getElem?_eq_getElem (by omega)
    obtain ⟨z, k, _⟩ := DataW.trod_int Try.underlying3 (h1.trans h2)
    simp only [List.take_succ_cons, List.take_zero, List.cons.injEq, and_true] at k
    exact ⟨z, by rw [List.getElem?_eq_getElem (by omega), k]⟩
  have G : ∃ A : Nat → Int, ∀ i, i < 8 → cs[i]? = some (.int .i64 (A i)) :=
    ⟨fun i => if h : i < 8 then Classical.choose (F i h) else 0, fun i hi => by simp only [dif_pos hi]; exact Classical.choose_spec (F i hi)⟩
  obtain ⟨A, hA⟩ := G
  refine ⟨A, List.ext_getElem? fun i => ?_⟩
  by_cases hi : i < 8
  · rw [hA i hi, Array.getElem?_toList, arr_get A hi]
  · rw [List.getElem?_eq_none (by omega), List.getElem?_eq_none (by simp; omega)]
end
end Go.Proofs.Ytjepnaefkfkpcaa
/- The code's search for an Id: cmp.Compare of texts, span's closure, slices.BinarySearchFunc, span. Walked. -/
namespace Go.Proofs.Ytjepnaefkfkpcaa
set_option linter.unusedVariables false
set_option linter.unusedSimpArgs false
set_option maxRecDepth 100000
open Go.RowKit
end Go.Proofs.Ytjepnaefkfkpcaa
