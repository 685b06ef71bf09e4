/- What the arguments of the laws read as: what is known. -/
import Derived.Test.YthhbjgecdhogoaaKnowW
import Derived.Test.YthhbjgecdhogoaaOpenV
import Derived.Test.YthhbjgecdhogoaaOpenS
import Derived.Deep.Slices
namespace Go.Proofs.Ythhbjgecdhogoaa
set_option linter.unusedVariables false
set_option linter.unusedSimpArgs false
open Go.ChangeShapes Go.WideShapes Go.ChangeAt Go.RowKit Go.Deep

section
variable {H : Type} {enc : TypeId × Value → H} {w : World} {base : Nat} {spare : Nat → Bool} {held : Bool} {fuel : Nat} {cs : List Value} {x : DataW H × List MemPlace}
set_option maxRecDepth 100000 in
/-- Texts. -/
theorem trod_texts (h : DataW.trod enc Try.prog w base spare held fuel 38 cs = some x) : ∃ (l : List ByteArray) (v : Value), cs = [v] ∧ TxW w l v := by
  rcases open_slice1 Try.underlying38 (by kernel_rfl) h with ⟨rfl, _⟩ | ⟨a, len, cap, m, n, V, D, Pl, rfl, _, hl, hm, hmm, _, hx⟩
  · exact ⟨[], _, rfl, none, 0, 0, 0, rfl, Nat.le_refl _, by decide, fun h => absurd h (by simp), fun k s hk => by simp at hk, fun s hs => by simp at hs⟩
  · have hlm : len ≤ m := by rw [hmm]; split <;> omega
    have key : ∀ i, i < len → ∃ s : ByteArray, V i = .string s ∧ s.size ≤ maxLen := by
      intro i hi
      obtain ⟨s, k, _, z⟩ := DataW.trod_string Try.underlying9 (hx i (by omega)).2
      simp only [List.cons.injEq, and_true] at k
      exact ⟨s, k, z⟩
    classical
    let S : Nat → ByteArray := fun i => if h : i < len then (key i h).choose else ⟨#[]⟩
    have hS : ∀ i, i < len → V i = .string (S i) ∧ (S i).size ≤ maxLen := by
      intro i hi
      simp only [S, dif_pos hi]
      exact (key i hi).choose_spec
    have hlk : ((List.range len).map S).length = len := by simp
    have hs : 0 < len → a.spot = none ∧ a.block < w.heap.size := by
      intro h0
      have h1 := (hx 0 (by omega)).1
      have e : a.add 0 = a := by simp [Addr.add]
      rw [e] at h1
      exact ⟨World.cell?_spot h1, World.block_lt_of_cell? w _ h1⟩
    refine ⟨(List.range len).map S, _, rfl, some a, cap, a.block, a.off, by rw [hlk], by rw [hlk]; exact hl, hm, fun h => ?_, fun k s hk => ?_, fun s hs => ?_⟩
    · rw [hlk] at h
      exact ⟨congrArg some (addr_lit (hs h).1), (hs h).2⟩
    · obtain ⟨hk', rfl⟩ := map_range S hk
      rw [← addr_at (hs (by omega)).1, (hx k (by omega)).1, (hS k hk').1]
    · obtain ⟨k, hk, e⟩ := List.mem_iff_getElem.1 hs
      obtain ⟨hk, rfl⟩ := map_range S (by rw [List.getElem?_eq_getElem hk, e])
      exact (hS k hk).2

set_option maxRecDepth 100000 in
/-- A piece's cells. -/
theorem trod_frag (h : DataW.trod enc Try.prog w base spare held fuel 40 cs = some x) : ∃ (f : Fr) (u : Value), cs = fc f u ∧ TxW w f.ids u := by
  obtain ⟨xs, n, hn, hx, hl, hxl, hf⟩ := DataW.trod_struct Try.underlying40 h
  have hl' : cs.length = 9 := hl.trans (by kernel_rfl)
  have hxl' : xs.length = 2 := hxl.trans (by kernel_rfl)
  have h0 : DataW.trod enc Try.prog w base spare held n 38 ((cs.drop 0).take (Try.prog.cellsOf 38)) = xs[0]? := hf 0 _ rfl
  have h1 : DataW.trod enc Try.prog w base spare held n 23 ((cs.drop 1).take (Try.prog.cellsOf 23)) = xs[1]? := hf 1 _ rfl
  rw [show Try.prog.cellsOf 38 = 1 by kernel_rfl, List.getElem?_eq_getElem (by omega)] at h0
  rw [show Try.prog.cellsOf 23 = 8 by kernel_rfl, List.getElem?_eq_getElem (by omega)] at h1
  match cs, hl' with
  | [c0, c1, c2, c3, c4, c5, c6, c7, c8], _ =>
    obtain ⟨l, v, e, ht⟩ := trod_texts h0
    obtain ⟨A, e'⟩ := trod_vec h1
    simp at e e'
    obtain ⟨e1, e2, e3, e4, e5, e6, e7, e8⟩ := e'
    subst e e1 e2 e3 e4 e5 e6 e7 e8
    exact ⟨⟨l, A⟩, _, rfl, ht⟩

set_option maxRecDepth 100000 in
/-- Pieces. -/
theorem trod_frags (h : DataW.trod enc Try.prog w base spare held fuel 24 cs = some x) : ∃ (l : List Fr) (v : Value), cs = [v] ∧ FrW w l v := by
  rcases open_slice Try.underlying24 h with ⟨rfl, _⟩ | ⟨a, len, cap, m, n, D, Pl, rfl, _, hl, hm, hmm, _, hx⟩
  · exact ⟨[], _, rfl, fun _ => .nilFunc, none, 0, 0, 0, rfl, Nat.le_refl _, by decide, fun h => absurd h (by simp), fun k f hk => by simp at hk, fun k f hk => by simp at hk⟩
  · have hlm : len ≤ m := by rw [hmm]; split <;> omega
    have hC : Try.prog.cellsOf 40 = 9 := by kernel_rfl
    rw [hC] at hx
    have key : ∀ i, i < len → ∃ (f : Fr) (u : Value), (∀ j z, (fc f u)[j]? = some z → w.cell? (a.add (i * 9 + j)) = some z) ∧ TxW w f.ids u := by
      intro i hi
      obtain ⟨cs', h2, h3⟩ := hx i (by omega)
      obtain ⟨_, hcl, hat⟩ := World.cells?_some h2
      obtain ⟨f, u, rfl, ht⟩ := trod_frag h3
      refine ⟨f, u, fun j z hz => ?_, ht⟩
      have hj : j < 9 := (List.getElem?_eq_some_iff.1 hz).1
      rw [← Go.Deep.add_add, hat j hj, hz]
    classical
    let F : Nat → Fr := fun i => if h : i < len then (key i h).choose else ⟨[], zeroV⟩
    let U : Nat → Value := fun i => if h : i < len then (key i h).choose_spec.choose else .nilFunc
    have hFU : ∀ i, i < len → (∀ j z, (fc (F i) (U i))[j]? = some z → w.cell? (a.add (i * 9 + j)) = some z) ∧ TxW w (F i).ids (U i) := by
      intro i hi
      have := (key i hi).choose_spec.choose_spec
      simp only [F, U, dif_pos hi]
      exact this
    have hlk : ((List.range len).map F).length = len := by simp
    have hs : 0 < len → a.spot = none ∧ a.block < w.heap.size := by
      intro h0
      have h1 := (hFU 0 h0).1 0 _ rfl
      have e : a.add (0 * 9 + 0) = a := by simp [Addr.add]
      rw [e] at h1
      exact ⟨World.cell?_spot h1, World.block_lt_of_cell? w _ h1⟩
    refine ⟨(List.range len).map F, _, rfl, U, some a, cap, a.block, a.off, by rw [hlk], by rw [hlk]; exact hl, hm, fun h => ?_, fun k f hk j z hz => ?_, fun k f hk => ?_⟩
    · rw [hlk] at h
      exact ⟨congrArg some (addr_lit (hs h).1), (hs h).2⟩
    · obtain ⟨hk', rfl⟩ := map_range F hk
      have h1 := (hFU k hk').1 j z hz
      rw [addr_at (hs (by omega)).1] at h1
      rw [Nat.add_assoc]; exact h1
    · obtain ⟨hk', rfl⟩ := map_range F hk
      exact (hFU k hk').2

set_option maxRecDepth 100000 in
/-- A version, and how great its count may be. -/
theorem trod_verW (h : DataW.trod enc Try.prog w base spare held fuel 28 cs = some x) : ∃ r c : Int, cs = [.int .i64 r, .int .i64 c] ∧ c ≤ 9223372036854775807 := by
  obtain ⟨xs, n, hn, hx, hl, hxl, hf⟩ := DataW.trod_struct Try.underlying28 h
  have hl' : cs.length = 2 := hl.trans (by kernel_rfl)
  have F := fun i f hi => field_at (P := Try.prog) (by kernel_rfl) (by rw [hl']; rfl) hxl hf i f hi
  match cs, hl' with
  | [c0, c1], _ =>
    obtain ⟨_, _, e0, t0⟩ := F 0 _ rfl
    obtain ⟨_, _, e1, t1⟩ := F 1 _ rfl
    obtain ⟨s0, k0, _⟩ := DataW.trod_int Try.underlying3 t0
    obtain ⟨s1, k1, _, z1⟩ := DataW.trod_int Try.underlying3 t1
    simp only [List.cons.injEq, and_true] at k0 k1
    simp at e0 e1
    subst e0 e1 k0 k1
    refine ⟨s0, s1, rfl, ?_⟩
    simp [Lit.wf, IntKind.min, IntKind.max, IntKind.signed, IntKind.bits] at z1
    omega
set_option maxRecDepth 100000 in
theorem open_verW {r : Reach} {b0 : Nat} {v : Value} {d : DataW H} {p : List MemPlace} (hv : Value.okWide Try.prog w r b0 28 v) (h : DataW.Trod enc Try.prog w base spare held 28 v d p) :
    ∃ r c : Int, v = .agg #[.int .i64 r, .int .i64 c] ∧ c ≤ 9223372036854775807 := by
  obtain ⟨l, rfl, hsz⟩ := okWide_struct Try.underlying28 hv
  obtain ⟨f, hf⟩ := h
  obtain ⟨r, c, e, hc⟩ := trod_verW hf
  refine ⟨r, c, ?_, hc⟩
  obtain ⟨l⟩ := l
  have : l = _ := e
  rw [this]

set_option maxRecDepth 100000 in
/-- An argument that is what is known. -/
theorem open_know {r : Reach} {b0 : Nat} {v : Value} {d : DataW H} {p : List MemPlace} (hv : Value.okWide Try.prog w r b0 26 v) (h : DataW.Trod enc Try.prog w base spare held 26 v d p) :
    ∃ (K : Kn) (u : Value), v = knV K.star u ∧ FrW w K.l u := by
  obtain ⟨l, rfl, hsz⟩ := okWide_struct Try.underlying26 hv
  obtain ⟨f, hf0⟩ := h
  obtain ⟨xs, n, hn, hx, hl, hxl, hf⟩ := DataW.trod_struct Try.underlying26 hf0
  obtain ⟨cs⟩ := l
  have hl' : cs.length = 9 := hl.trans (by kernel_rfl)
  have hxl' : xs.length = 2 := hxl.trans (by kernel_rfl)
  have h0 : DataW.trod enc Try.prog w base spare held n 23 ((cs.drop 0).take (Try.prog.cellsOf 23)) = xs[0]? := hf 0 _ rfl
  have h1 : DataW.trod enc Try.prog w base spare held n 24 ((cs.drop 8).take (Try.prog.cellsOf 24)) = xs[1]? := hf 1 _ rfl
  rw [show Try.prog.cellsOf 23 = 8 by kernel_rfl, List.getElem?_eq_getElem (by omega)] at h0
  rw [show Try.prog.cellsOf 24 = 1 by kernel_rfl, List.getElem?_eq_getElem (by omega)] at h1
  match cs, hl' with
  | [c0, c1, c2, c3, c4, c5, c6, c7, c8], _ =>
    obtain ⟨A, e'⟩ := trod_vec h0
    obtain ⟨l, u, e, ht⟩ := trod_frags h1
    simp at e e'
    obtain ⟨e1, e2, e3, e4, e5, e6, e7, e8⟩ := e'
    subst e e1 e2 e3 e4 e5 e6 e7 e8
    exact ⟨⟨A, l⟩, _, rfl, ht⟩
end

end Go.Proofs.Ythhbjgecdhogoaa
