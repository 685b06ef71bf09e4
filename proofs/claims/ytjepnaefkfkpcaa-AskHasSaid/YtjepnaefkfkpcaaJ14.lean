/- Joined: LConc, LMay, OpenL, LPut, OpenK. -/
import Derived.Test.YtjepnaefkfkpcaaJ13
import Derived.Shelf.Spec.SlicesGrow
import Derived.Lib.AppendZeros
import Derived.Test.YtjepnaefkfkpcaaJ11
import Derived.Deep.DeepCutAuto
import Derived.Test.YtjepnaefkfkpcaaJ01
import Derived.Test.YtjepnaefkfkpcaaJ08
import Derived.Deep.RegionLaw
import Derived.Deep.RegionHeld3
import Derived.Test.YtjepnaefkfkpcaaJ04
import Derived.Deep.Slices
/- Lists of items, one behind the other: slices.Concat, walked over the library's contract of slices.Grow, laid at this program; items that lie there appended. -/
namespace Go.Proofs.Ytjepnaefkfkpcaa
set_option linter.unusedVariables false
set_option linter.unusedSimpArgs false
set_option maxRecDepth 100000
open Go.RowKit
/-! ### Slices of slices that lie there -/
end Go.Proofs.Ytjepnaefkfkpcaa
/- The code's list.May, Get. Walked. -/
namespace Go.Proofs.Ytjepnaefkfkpcaa
set_option linter.unusedVariables false
set_option linter.unusedSimpArgs false
set_option maxRecDepth 100000
open Go.RowKit
end Go.Proofs.Ytjepnaefkfkpcaa
/- What the arguments of the laws read as: rows of plain rows. -/
namespace Go.Proofs.Ytjepnaefkfkpcaa
set_option linter.unusedVariables false
set_option linter.unusedSimpArgs false
set_option maxRecDepth 100000
open Go.ChangeShapes Go.WideShapes Go.ChangeAt Go.RowKit Go.Deep
section
variable {H : Type} {enc : TypeId × Value → H} {w : World} {base : Nat} {spare : Nat → Bool} {held : Bool} {fuel : Nat} {cs : List Value} {x : DataW H × List MemPlace}
set_option maxRecDepth 100000 in
theorem trod_rows (h : DataW.trod enc Try.prog w base spare held fuel 26 cs = some x) : ∃ (l : List Itm) (v : Value), cs = [v] ∧ Row 9 rc w l v := by
  rcases open_slice Try.underlying26 h with ⟨rfl, _⟩ | ⟨a, len, cap, m, n, D, Pl, rfl, _, hl, hm, hmm, _, hx⟩
  · exact ⟨[], _, rfl, none, 0, 0, 0, rfl, Nat.le_refl _, by decide, fun h => absurd h (by simp), fun k f hk => by simp at hk, fun i hi => by simp at hi⟩
  · have hlm : len ≤ m := by rw [hmm]; split <;> omega
    have hC : Try.prog.cellsOf 91 = 9 := by kernel_rfl
    rw [hC] at hx
    have key : ∀ i, i < len → ∃ (f : Itm), (∀ j z, (rc f)[j]? = some z → w.cell? (a.add (i * 9 + j)) = some z) ∧ f.id.size ≤ maxLen ∧ f.kd.size ≤ maxLen := by
      intro i hi
      obtain ⟨cs', h2, h3⟩ := hx i (by omega)
      obtain ⟨_, hcl, hat⟩ := World.cells?_some h2
      obtain ⟨id, r, c, st, kd, n, x, y, d, rfl, h4, h5, _⟩ := trod_row h3
      refine ⟨⟨id, r, c, st, kd, n, x, y, d⟩, fun j z hz => ?_, h4, h5⟩
      have hj : j < 9 := (List.getElem?_eq_some_iff.1 hz).1
      rw [← Go.Deep.add_add, hat j hj, hz]
    classical
    let F : Nat → Itm := fun i => if h : i < len then (key i h).choose else Itm.zero
    have hF : ∀ i, i < len → (∀ j z, (rc (F i))[j]? = some z → w.cell? (a.add (i * 9 + j)) = some z) ∧ (F i).id.size ≤ maxLen ∧ (F i).kd.size ≤ maxLen := by
      intro i hi
      have := (key i hi).choose_spec
      simp only [F, dif_pos hi]
      exact this
    have hlk : ((List.range len).map F).length = len := by simp
    have hs : 0 < len → a.spot = none ∧ a.block < w.heap.size := by
      intro h0
      have h1 := (hF 0 h0).1 0 _ rfl
      have e : a.add (0 * 9 + 0) = a := by simp [Addr.add]
      rw [e] at h1
      exact ⟨World.cell?_spot h1, World.block_lt_of_cell? w _ h1⟩
    refine ⟨(List.range len).map F, _, rfl, some a, cap, a.block, a.off, by rw [hlk], by rw [hlk]; exact hl, hm, fun h => ?_, fun k f hk j z hz => ?_, fun f hf => ?_⟩
    · rw [hlk] at h
      exact ⟨congrArg some (addr_lit (hs h).1), (hs h).2⟩
    · obtain ⟨hk', rfl⟩ := map_range F hk
      have h1 := (hF k hk').1 j z hz
      rw [addr_at (hs (by omega)).1] at h1
      rw [Nat.add_assoc]; exact h1
    · obtain ⟨k, hk, e⟩ := List.mem_iff_getElem.1 hf
      obtain ⟨hk', rfl⟩ := map_range F (by rw [List.getElem?_eq_getElem hk, e])
      exact (hF k hk').2
end
end Go.Proofs.Ytjepnaefkfkpcaa
/- The code's list.Put, Drop. Walked. -/
namespace Go.Proofs.Ytjepnaefkfkpcaa
set_option linter.unusedVariables false
set_option linter.unusedSimpArgs false
set_option maxRecDepth 100000
open Go.RowKit
theorem add_none (b o n : Nat) : (⟨b, o, none⟩ : Addr).add n = ⟨b, o + n, none⟩ := by
  unfold Addr.add; split <;> simp_all
theorem Row.slice {w : World} {l : List Itm} {oa : Option Addr} {n cap : Nat} (h : Row 8 ic w l (.slice oa n cap)) (t : Nat) (ht : t ≤ l.length) : Row 8 ic w (l.drop t) (.slice (Option.map (fun x => x.add (t * 8)) oa) (n - t) (cap - t)) := by
  obtain ⟨oa', cap', b, o, e, h⟩ := h
  cases e
  have hc := h.len
  have hm := h.max
  refine ⟨_, cap - t, b, o + t * 8, by rw [List.length_drop], by rw [List.length_drop]; omega, by omega, fun h0 => ?_, fun k i hk j u hu => ?_, fun i hi => h.ok i (List.mem_of_mem_drop hi)⟩
  · rw [List.length_drop] at h0
    obtain ⟨rfl, hb⟩ := h.at0 (by omega)
    exact ⟨by simp only [Option.map_some, add_none], hb⟩
  · rw [List.getElem?_drop] at hk
    have := h.cell (t + k) i hk j u hu
    rw [show o + t * 8 + k * 8 + j = o + (t + k) * 8 + j by omega]
    exact this
theorem Row.none {w : World} {l : List Itm} {oa : Option Addr} {n cap : Nat} (h : Row 8 ic w l (.slice oa n cap)) : Row 8 ic w (l.drop cap) (.slice oa 0 0) := by
  obtain ⟨oa', cap', b, o, e, h⟩ := h
  cases e
  have hc := h.len
  have e : l.drop cap = [] := List.drop_eq_nil_of_le hc
  rw [e]
  exact ⟨_, 0, b, o, rfl, Nat.le_refl _, by decide, fun h0 => by simp at h0, fun k i hk => by simp at hk, fun i hi => by simp at hi⟩
end Go.Proofs.Ytjepnaefkfkpcaa
/- What the arguments of the laws read as: what is known. -/
namespace Go.Proofs.Ytjepnaefkfkpcaa
set_option linter.unusedVariables false
set_option linter.unusedSimpArgs false
set_option maxRecDepth 100000
open Go.ChangeShapes Go.WideShapes Go.ChangeAt Go.RowKit Go.Deep
section
variable {H : Type} {enc : TypeId × Value → H} {w : World} {base : Nat} {spare : Nat → Bool} {held : Bool} {fuel : Nat} {cs : List Value} {x : DataW H × List MemPlace}
set_option maxRecDepth 100000 in
theorem trod_texts (h : DataW.trod enc Try.prog w base spare held fuel 86 cs = some x) : ∃ (l : List ByteArray) (v : Value), cs = [v] ∧ TxW w l v := by
  rcases open_slice1 Try.underlying86 (by kernel_rfl) h with ⟨rfl, _⟩ | ⟨a, len, cap, m, n, V, D, Pl, rfl, _, hl, hm, hmm, _, hx⟩
  · exact ⟨[], _, rfl, none, 0, 0, 0, rfl, Nat.le_refl _, by decide, fun h => absurd h (by simp), fun k s hk => by simp at hk, fun s hs => by simp at hs⟩
  · have hlm : len ≤ m := by rw [hmm]; split <;> omega
    have key : ∀ i, i < len → ∃ s : ByteArray, V i = .string s ∧ s.size ≤ maxLen := by
      intro i hi
      obtain ⟨s, k, _, z⟩ := DataW.trod_string Try.underlying9 (hx i (by omega)).2
      simp only [List.cons.injEq, and_true] at k
      exact ⟨s, k, z⟩
    classical
    let S : Nat → ByteArray := fun i => if h : i < len then (key i h).choose else ⟨#[]⟩
    have hS : ∀ i, i < len → V i = .string (S i) ∧ (S i).size ≤ maxLen := by
      intro i hi
      simp only [S, dif_pos hi]
      exact (key i hi).choose_spec
    have hlk : ((List.range len).map S).length = len := by simp
    have hs : 0 < len → a.spot = none ∧ a.block < w.heap.size := by
      intro h0
      have h1 := (hx 0 (by omega)).1
      have e : a.add 0 = a := by simp [Addr.add]
      rw [e] at h1
      exact ⟨World.cell?_spot h1, World.block_lt_of_cell? w _ h1⟩
    refine ⟨(List.range len).map S, _, rfl, some a, cap, a.block, a.off, by rw [hlk], by rw [hlk]; exact hl, hm, fun h => ?_, fun k s hk => ?_, fun s hs => ?_⟩
    · rw [hlk] at h
      exact ⟨congrArg some (addr_lit (hs h).1), (hs h).2⟩
    · obtain ⟨hk', rfl⟩ := map_range S hk
      rw [← addr_at (hs (by omega)).1, (hx k (by omega)).1, (hS k hk').1]
    · obtain ⟨k, hk, e⟩ := List.mem_iff_getElem.1 hs
      obtain ⟨hk, rfl⟩ := map_range S (by rw [List.getElem?_eq_getElem hk, e])
      exact (hS k hk).2
set_option maxRecDepth 100000 in
theorem trod_frag (h : DataW.trod enc Try.prog w base spare held fuel 88 cs = some x) : ∃ (f : Fr) (u : Value), cs = fc f u ∧ TxW w f.ids u := by
  obtain ⟨xs, n, hn, hx, hl, hxl, hf⟩ := DataW.trod_struct Try.underlying88 h
  have hl' : cs.length = 9 := hl.trans (by kernel_rfl)
  have hxl' : xs.length = 2 := hxl.trans (by kernel_rfl)
  have h0 : DataW.trod enc Try.prog w base spare held n 86 ((cs.drop 0).take (Try.prog.cellsOf 86)) = xs[0]? := hf 0 _ rfl
  have h1 : DataW.trod enc Try.prog w base spare held n 28 ((cs.drop 1).take (Try.prog.cellsOf 28)) = xs[1]? := hf 1 _ rfl
  rw [show Try.prog.cellsOf 86 = 1 by kernel_rfl, List.getElem?_eq_getElem (by omega)] at h0
  rw [show Try.prog.cellsOf 28 = 8 by kernel_rfl, List.getElem?_eq_getElem (by omega)] at h1
  match cs, hl' with
  | [c0, c1, c2, c3, c4, c5, c6, c7, c8], _ =>
    obtain ⟨l, v, e, ht⟩ := trod_texts h0
    obtain ⟨A, e'⟩ := trod_vec h1
    simp at e e'
    obtain ⟨e1, e2, e3, e4, e5, e6, e7, e8⟩ := e'
    subst e e1 e2 e3 e4 e5 e6 e7 e8
    exact ⟨⟨l, A⟩, _, rfl, ht⟩
set_option maxRecDepth 100000 in
theorem trod_frags (h : DataW.trod enc Try.prog w base spare held fuel 29 cs = some x) : ∃ (l : List Fr) (v : Value), cs = [v] ∧ FrW w l v := by
  rcases open_slice Try.underlying29 h with ⟨rfl, _⟩ | ⟨a, len, cap, m, n, D, Pl, rfl, _, hl, hm, hmm, _, hx⟩
  · exact ⟨[], _, rfl, fun _ => .nilFunc, none, 0, 0, 0, rfl, Nat.le_refl _, by decide, fun h => absurd h (by simp), fun k f hk => by simp at hk, fun k f hk => by simp at hk⟩
  · have hlm : len ≤ m := by rw [hmm]; split <;> omega
    have hC : Try.prog.cellsOf 88 = 9 := by kernel_rfl
    rw [hC] at hx
    have key : ∀ i, i < len → ∃ (f : Fr) (u : Value), (∀ j z, (fc f u)[j]? = some z → w.cell? (a.add (i * 9 + j)) = some z) ∧ TxW w f.ids u := by
      intro i hi
      obtain ⟨cs', h2, h3⟩ := hx i (by omega)
      obtain ⟨_, hcl, hat⟩ := World.cells?_some h2
      obtain ⟨f, u, rfl, ht⟩ := trod_frag h3
      refine ⟨f, u, fun j z hz => ?_, ht⟩
      have hj : j < 9 := (List.getElem?_eq_some_iff.1 hz).1
      rw [← Go.Deep.add_add, hat j hj, hz]
    classical
    let F : Nat → Fr := fun i => if h : i < len then (key i h).choose else ⟨[], zeroV⟩
    let U : Nat → Value := fun i => if h : i < len then (key i h).choose_spec.choose else .nilFunc
    have hFU : ∀ i, i < len → (∀ j z, (fc (F i) (U i))[j]? = some z → w.cell? (a.add (i * 9 + j)) = some z) ∧ TxW w (F i).ids (U i) := by
      intro i hi
      have := (key i hi).choose_spec.choose_spec
      simp only [F, U, dif_pos hi]
      exact this
    have hlk : ((List.range len).map F).length = len := by simp
    have hs : 0 < len → a.spot = none ∧ a.block < w.heap.size := by
      intro h0
      have h1 := (hFU 0 h0).1 0 _ rfl
      have e : a.add (0 * 9 + 0) = a := by simp [Addr.add]
      rw [e] at h1
      exact ⟨World.cell?_spot h1, World.block_lt_of_cell? w _ h1⟩
    refine ⟨(List.range len).map F, _, rfl, U, some a, cap, a.block, a.off, by rw [hlk], by rw [hlk]; exact hl, hm, fun h => ?_, fun k f hk j z hz => ?_, fun k f hk => ?_⟩
    · rw [hlk] at h
      exact ⟨congrArg some (addr_lit (hs h).1), (hs h).2⟩
    · obtain ⟨hk', rfl⟩ := map_range F hk
      have h1 := (hFU k hk').1 j z hz
      rw [addr_at (hs (by omega)).1] at h1
      rw [Nat.add_assoc]; exact h1
    · obtain ⟨hk', rfl⟩ := map_range F hk
      exact (hFU k hk').2
end
end Go.Proofs.Ytjepnaefkfkpcaa
