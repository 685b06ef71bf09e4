/- What the arguments of the laws read as: rows opened to their cells. -/
import Derived.Test.YtbojpdlidgmckaaOpenA
namespace Go.Proofs.Ytbojpdlidgmckaa
set_option linter.unusedVariables false
set_option linter.unusedSimpArgs false
open Go.ChangeShapes Go.WideShapes Go.ChangeAt Go.RowKit Go.Deep

section
variable {H : Type} {enc : TypeId × Value → H} {w : World} {base : Nat} {spare : Nat → Bool} {held : Bool} {fuel : Nat} {cs : List Value} {x : DataW H × List MemPlace}
/-- A row's cells. -/
def RowCells (cs : List Value) : Prop := ∃ (id : ByteArray) (r c st : Int) (kd : ByteArray) (n : Int) (x y : Nat) (d : Bool),
  cs = [.string id, .int .i64 r, .int .i64 c, .int .i64 st, .string kd, .int .i64 n, .float .f64 x, .float .f64 y, .bool d] ∧ id.size ≤ maxLen ∧ kd.size ≤ maxLen ∧
  (Lit.int .i64 r).wf = true ∧ (Lit.int .i64 c).wf = true ∧ (Lit.int .i64 st).wf = true ∧ (Lit.int .i64 n).wf = true

set_option maxRecDepth 100000 in
theorem trod_row (h : DataW.trod enc Try.prog w base spare held fuel 25 cs = some x) : RowCells cs := by
  obtain ⟨xs, n, hn, hx, hl, hxl, hf⟩ := DataW.trod_struct Try.underlying25 h
  have hl' : cs.length = 9 := hl.trans (by kernel_rfl)
  have F := fun i f hi => field_at (P := Try.prog) (by kernel_rfl) (by rw [hl']; rfl) hxl hf i f hi
  match cs, hl' with
  | [c0, c1, c2, c3, c4, c5, c6, c7, c8], _ =>
    obtain ⟨_, _, e0, t0⟩ := F 0 _ rfl
    obtain ⟨_, _, e1, t1⟩ := F 1 _ rfl
    obtain ⟨_, _, e2, t2⟩ := F 2 _ rfl
    obtain ⟨_, _, e3, t3⟩ := F 3 _ rfl
    obtain ⟨_, _, e4, t4⟩ := F 4 _ rfl
    obtain ⟨_, _, e5, t5⟩ := F 5 _ rfl
    obtain ⟨_, _, e6, t6⟩ := F 6 _ rfl
    obtain ⟨_, _, e7, t7⟩ := F 7 _ rfl
    obtain ⟨_, _, e8, t8⟩ := F 8 _ rfl
    obtain ⟨s0, k0, _, z0⟩ := DataW.trod_string Try.underlying9 t0
    obtain ⟨s1, k1, _, z1⟩ := DataW.trod_int Try.underlying3 t1
    obtain ⟨s2, k2, _, z2⟩ := DataW.trod_int Try.underlying3 t2
    obtain ⟨s3, k3, _, z3⟩ := DataW.trod_int Try.underlying3 t3
    obtain ⟨s4, k4, _, z4⟩ := DataW.trod_string Try.underlying9 t4
    obtain ⟨s5, k5, _, z5⟩ := DataW.trod_int Try.underlying3 t5
    obtain ⟨s6, k6⟩ := trod_float Try.underlying23 t6
    obtain ⟨s7, k7⟩ := trod_float Try.underlying23 t7
    obtain ⟨s8, k8, _⟩ := DataW.trod_bool Try.underlying4 t8
    simp only [List.cons.injEq, and_true] at k0 k1 k2 k3 k4 k5 k6 k7 k8
    simp at e0 e1 e2 e3 e4 e5 e6 e7 e8
    subst e0 e1 e2 e3 e4 e5 e6 e7 e8 k0 k1 k2 k3 k4 k5 k6 k7 k8
    exact ⟨s0, s1, s2, s3, s4, s5, s6, s7, s8, rfl, z0, z4, z1, z2, z3, z5⟩

set_option maxRecDepth 100000 in
/-- An argument that is a row. -/
theorem open_row {r : Reach} {b0 : Nat} {v : Value} {d : DataW H} {p : List MemPlace} (hv : Value.okWide Try.prog w r b0 25 v) (h : DataW.Trod enc Try.prog w base spare held 25 v d p) :
    ∃ (id : ByteArray) (r c st : Int) (kd : ByteArray) (n : Int) (x y : Nat) (d : Bool), v = .agg #[.string id, .int .i64 r, .int .i64 c, .int .i64 st, .string kd, .int .i64 n, .float .f64 x, .float .f64 y, .bool d] ∧ id.size ≤ maxLen ∧ kd.size ≤ maxLen := by
  obtain ⟨l, rfl, hsz⟩ := okWide_struct Try.underlying25 hv
  obtain ⟨f, hf⟩ := h
  obtain ⟨id, r, c, st, kd, n, x, y, d, e, h1, h2, _⟩ := trod_row hf
  refine ⟨id, r, c, st, kd, n, x, y, d, ?_, h1, h2⟩
  obtain ⟨l⟩ := l
  have : l = _ := e
  rw [this]
end

end Go.Proofs.Ytbojpdlidgmckaa
