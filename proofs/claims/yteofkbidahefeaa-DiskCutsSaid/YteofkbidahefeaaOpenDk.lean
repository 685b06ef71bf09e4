/- What the arguments of the laws of layer 18 read as. -/
import Derived.Test.YteofkbidahefeaaOpenBy
import Derived.Test.YteofkbidahefeaaGen
namespace Go.Proofs.Yteofkbidahefeaa
set_option linter.unusedVariables false
set_option linter.unusedSimpArgs false
set_option maxRecDepth 100000
open Go.ChangeShapes Go.WideShapes Go.ChangeAt Go.RowKit Go.Deep

/-- A deed: what, a number, bytes, and their value. -/
structure Dd where
  what : Int
  n : Int
  b : List Nat
  v : Value
instance : Inhabited Dd := ⟨⟨0, 0, [], .nilFunc⟩⟩
def ddC (x : Dd) : List Value := [.int .i64 x.what, .int .i64 x.n, x.v]
def ddOk (w : World) (x : Dd) : Prop := ByW w x.b x.v ∧ x.n ≤ 9223372036854775807
def DdW (w : World) (l : List Dd) (v : Value) : Prop := RG 3 ddC w l v ∧ ∀ x ∈ l, ddOk w x
/-- Rows of bytes. -/
def bbC (x : List Nat × Value) : List Value := [x.2]
instance : Inhabited (List Nat × Value) := ⟨([], .nilFunc)⟩
def BbW (w : World) (l : List (List Nat × Value)) (v : Value) : Prop := RG 1 bbC w l v ∧ ∀ x ∈ l, ByW w x.1 x.2
section
variable {H : Type} {enc : TypeId × Value → H} {w : World} {base : Nat} {spare : Nat → Bool} {held : Bool} {fuel : Nat} {cs : List Value} {x : DataW H × List MemPlace}
set_option maxRecDepth 100000 in
theorem trod_dd (h : DataW.trod enc Try.prog w base spare held fuel 32 cs = some x) : ∃ q : Dd, cs = ddC q ∧ ddOk w q := by
  obtain ⟨xs, n, hn, hx, hl, hxl, hf⟩ := DataW.trod_struct Try.underlying32 h
  have hl' : cs.length = 3 := hl.trans (by kernel_rfl)
  have F := fun i f hi => field_at (P := Try.prog) (by kernel_rfl) (by rw [hl']; rfl) hxl hf i f hi
  match cs, hl' with
  | [c0, c1, c2], _ =>
    obtain ⟨_, _, e0, t0⟩ := F 0 _ rfl
    obtain ⟨_, _, e1, t1⟩ := F 1 _ rfl
    obtain ⟨_, _, e2, t2⟩ := F 2 _ rfl
    obtain ⟨s0, k0, _⟩ := DataW.trod_int Try.underlying3 t0
    obtain ⟨s1, k1, _, z1⟩ := DataW.trod_int Try.underlying3 t1
    obtain ⟨l, u, k2, hl⟩ := trod_by t2
    simp only [List.cons.injEq, and_true] at k0 k1 k2
    simp at e0 e1 e2
    subst e0 e1 e2 k0 k1 k2
    refine ⟨⟨s0, s1, l, _⟩, rfl, hl, ?_⟩
    simp [Lit.wf, IntKind.min, IntKind.max, IntKind.signed, IntKind.bits] at z1
    show s1 ≤ 9223372036854775807
    omega
set_option maxRecDepth 100000 in
theorem open_dds {r : Reach} {b0 : Nat} {v : Value} {d : DataW H} {p : List MemPlace} (hv : Value.okWide Try.prog w r b0 22 v) (h : DataW.Trod enc Try.prog w base spare held 22 v d p) :
    ∃ (l : List Dd), DdW w l v := by
  obtain ⟨a, len, cap, rfl⟩ := okWide_slice Try.underlying22 hv
  obtain ⟨f, hf⟩ := h
  obtain ⟨l, u, e, hl, ho⟩ := trod_row Try.underlying22 (sz := 3) (by kernel_rfl) (by decide) ddC (fun _ => rfl) (ddOk w) (fun _ _ _ h => trod_dd h) hf
  have e' : Value.slice a len cap = u := by simpa [Value.cells] using e
  rw [e']
  exact ⟨l, hl, ho⟩
set_option maxRecDepth 100000 in
theorem open_bbs {r : Reach} {b0 : Nat} {v : Value} {d : DataW H} {p : List MemPlace} (hv : Value.okWide Try.prog w r b0 43 v) (h : DataW.Trod enc Try.prog w base spare held 43 v d p) :
    ∃ (l : List (List Nat × Value)), BbW w l v := by
  obtain ⟨a, len, cap, rfl⟩ := okWide_slice Try.underlying43 hv
  obtain ⟨f, hf⟩ := h
  obtain ⟨l, u, e, hl, ho⟩ := trod_row Try.underlying43 (sz := 1) (by kernel_rfl) (by decide) bbC (fun _ => rfl) (fun x => ByW w x.1 x.2) (fun _ _ _ h => by obtain ⟨l, v, e, hb⟩ := trod_by h; exact ⟨(l, v), e, hb⟩) hf
  have e' : Value.slice a len cap = u := by simpa [Value.cells] using e
  rw [e']
  exact ⟨l, hl, ho⟩
end

end Go.Proofs.Yteofkbidahefeaa
