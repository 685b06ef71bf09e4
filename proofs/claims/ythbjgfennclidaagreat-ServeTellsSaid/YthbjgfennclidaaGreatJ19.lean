/- Joined: OpenV, Set5, Gen, ErrH, OpenL. -/
import Derived.Test.YthbjgfennclidaaGreatJ17
import Derived.Test.YthbjgfennclidaaGreatJ01
import Derived.Test.YthbjgfennclidaaGreatJ14
import Derived.Test.YthbjgfennclidaaGreatJ18
import Derived.Test.YthbjgfennclidaaGreatJ04
/- What the arguments of the laws read as: counts of replicas, versions. -/
namespace Go.Proofs.YthbjgfennclidaaGreat
set_option linter.unusedVariables false
set_option linter.unusedSimpArgs false
set_option maxRecDepth 100000
open Go.ChangeShapes Go.WideShapes Go.ChangeAt Go.RowKit Go.Deep
section
variable {H : Type} {enc : TypeId × Value → H} {w : World} {base : Nat} {spare : Nat → Bool} {held : Bool} {fuel : Nat} {cs : List Value} {x : DataW H × List MemPlace}
set_option maxRecDepth 100000 in
theorem trod_vec (h : DataW.trod enc Tryz.prog w base spare held fuel 28 cs = some x) : ∃ A : Nat → Int, cs = (arr8 A).toList := by
  obtain ⟨xs, n, _, ex, hl, hlen, hel⟩ := DataW.trod_array Tryz.underlying28 h
  have hl' : cs.length = 8 := hl.trans (by kernel_rfl)
  have hc : Tryz.prog.cellsOf 3 = 1 := by kernel_rfl
  have F : ∀ i, i < 8 → ∃ z : Int, cs[i]? = some (.int .i64 z) := by
    intro i hi
    have h1 := hel i hi
    rw [hc, Nat.mul_one, List.drop_eq_getElem_cons (by omega)] at h1
    have h2 : xs[i]? = some (xs[i]'(by omega)) := List.getElem?_eq_getElem (by omega)
    obtain ⟨z, k, _⟩ := DataW.trod_int Tryz.underlying3 (h1.trans h2)
    simp only [List.take_succ_cons, List.take_zero, List.cons.injEq, and_true] at k
    exact ⟨z, by rw [List.getElem?_eq_getElem (by omega), k]⟩
  have G : ∃ A : Nat → Int, ∀ i, i < 8 → cs[i]? = some (.int .i64 (A i)) :=
    ⟨fun i => if h : i < 8 then Classical.choose (F i h) else 0, fun i hi => by simp only [dif_pos hi]; exact Classical.choose_spec (F i hi)⟩
  obtain ⟨A, hA⟩ := G
  refine ⟨A, List.ext_getElem? fun i => ?_⟩
  by_cases hi : i < 8
  · rw [hA i hi, Array.getElem?_toList, arr_get A hi]
  · rw [List.getElem?_eq_none (by omega), List.getElem?_eq_none (by simp; omega)]
end
end Go.Proofs.YthbjgfennclidaaGreat
/- Five stores into one block. No walk. -/
namespace Go.Proofs.YthbjgfennclidaaGreat
set_option linter.unusedVariables false
set_option linter.unusedSimpArgs false
set_option maxRecDepth 100000
open Go.RowKit
end Go.Proofs.YthbjgfennclidaaGreat
/- Rows of whatever, as arguments are read. No walk. -/
namespace Go.Proofs.YthbjgfennclidaaGreat
set_option linter.unusedVariables false
set_option linter.unusedSimpArgs false
set_option maxRecDepth 100000
open Go.ChangeShapes Go.WideShapes Go.ChangeAt Go.RowKit Go.Deep
structure RGAt {α : Type} (sz : Nat) (f : α → List Value) (w : World) (l : List α) (oa : Option Addr) (cap b o : Nat) : Prop where
  len : l.length ≤ cap
  max : cap ≤ maxLen
  at0 : 0 < l.length → oa = some ⟨b, o, none⟩ ∧ b < w.heap.size
  cell : ∀ k x, l[k]? = some x → ∀ j u, (f x)[j]? = some u → w.cell? ⟨b, o + k * sz + j, none⟩ = some u
def RG {α : Type} (sz : Nat) (f : α → List Value) (w : World) (l : List α) (v : Value) : Prop := ∃ oa cap b o, v = .slice oa l.length cap ∧ RGAt sz f w l oa cap b o
section
variable {α : Type} {sz : Nat} {f : α → List Value} {w w' : World} {l : List α} {v : Value} {oa : Option Addr} {cap b o : Nat}
theorem RGAt.later (h : RGAt sz f w l oa cap b o) (hb : Below w.heap.size w w') : RGAt sz f w' l oa cap b o := by
  refine ⟨h.len, h.max, fun h0 => ⟨(h.at0 h0).1, Nat.lt_of_lt_of_le (h.at0 h0).2 hb.size⟩, fun k x hk j u hu => ?_⟩
  have hlt : b < w.heap.size := (h.at0 (by have := (List.getElem?_eq_some_iff.1 hk).1; omega)).2
  exact (hb.cell (p := ⟨b, o + k * sz + j, none⟩) hlt).trans (h.cell k x hk j u hu)
theorem RG.later (h : RG sz f w l v) (hb : Below w.heap.size w w') : RG sz f w' l v := by
  obtain ⟨oa, cap, b, o, e, h⟩ := h
  exact ⟨oa, cap, b, o, e, h.later hb⟩
end
section
variable {α : Type} {H : Type} {enc : TypeId × Value → H} {P : Program} {w : World} {base : Nat} {spare : Nat → Bool} {held : Bool} {fuel : Nat} {cs : List Value} {x : DataW H × List MemPlace}
set_option maxRecDepth 100000 in
theorem trod_rg [Inhabited α] {t e : TypeId} (ht : P.underlying t = some (.slice e)) {sz : Nat} (hC : P.cellsOf e = sz) (h0 : 0 < sz) (f : α → List Value) (hf : ∀ a, (f a).length = sz) (ok : α → Prop)
    (el : ∀ fuel cs x, DataW.trod enc P w base spare held fuel e cs = some x → ∃ a, cs = f a ∧ ok a)
    (h : DataW.trod enc P w base spare held fuel t cs = some x) : ∃ (l : List α) (v : Value), cs = [v] ∧ RG sz f w l v ∧ ∀ a ∈ l, ok a := by
  rcases open_slice ht h with ⟨rfl, _⟩ | ⟨a, len, cap, m, n, D, Pl, rfl, _, hl, hm, hmm, _, hx⟩
  · exact ⟨[], _, rfl, ⟨none, 0, 0, 0, rfl, Nat.le_refl _, by decide, fun h => absurd h (by simp), fun k f hk => by simp at hk⟩, fun i hi => by simp at hi⟩
  · have hlm : len ≤ m := by rw [hmm]; split <;> omega
    rw [hC] at hx
    have key : ∀ i, i < len → ∃ (q : α), (∀ j z, (f q)[j]? = some z → w.cell? (a.add (i * sz + j)) = some z) ∧ ok q := by
      intro i hi
      obtain ⟨cs', h2, h3⟩ := hx i (by omega)
      obtain ⟨_, hcl, hat⟩ := World.cells?_some h2
      obtain ⟨d, rfl, hd⟩ := el _ _ _ h3
      refine ⟨d, fun j z hz => ?_, hd⟩
      have hj : j < sz := by have := (List.getElem?_eq_some_iff.1 hz).1; rw [hf] at this; exact this
      rw [← Go.Deep.add_add, hat j hj, hz]
    classical
    let F : Nat → α := fun i => if h : i < len then (key i h).choose else default
    have hF : ∀ i, i < len → (∀ j z, (f (F i))[j]? = some z → w.cell? (a.add (i * sz + j)) = some z) ∧ ok (F i) := by
      intro i hi
      have := (key i hi).choose_spec
      simp only [F, dif_pos hi]
      exact this
    have hlk : ((List.range len).map F).length = len := by simp
    have hs : 0 < len → a.spot = none ∧ a.block < w.heap.size := by
      intro h1
      have hlt : 0 < (f (F 0)).length := by rw [hf]; exact h0
      have h1 := (hF 0 h1).1 0 _ (List.getElem?_eq_getElem hlt)
      have e : a.add (0 * sz + 0) = a := by simp [Addr.add]
      rw [e] at h1
      exact ⟨World.cell?_spot h1, World.block_lt_of_cell? w _ h1⟩
    refine ⟨(List.range len).map F, _, rfl, ⟨some a, cap, a.block, a.off, by rw [hlk], by rw [hlk]; exact hl, hm, fun h => ?_, fun k q hk j z hz => ?_⟩, fun q hq => ?_⟩
    · rw [hlk] at h
      exact ⟨congrArg some (addr_lit (hs h).1), (hs h).2⟩
    · obtain ⟨hk', rfl⟩ := map_range F hk
      have h1 := (hF k hk').1 j z hz
      rw [addr_at (hs (by omega)).1] at h1
      rw [Nat.add_assoc]; exact h1
    · obtain ⟨k, hk, e⟩ := List.mem_iff_getElem.1 hq
      obtain ⟨hk', rfl⟩ := map_range F (by rw [List.getElem?_eq_getElem hk, e])
      exact (hF k hk').2
end
end Go.Proofs.YthbjgfennclidaaGreat
/- The laws' own helper of errors: an error's number. Walked. -/
namespace Go.Proofs.YthbjgfennclidaaGreat
set_option linter.unusedVariables false
set_option linter.unusedSimpArgs false
set_option maxRecDepth 100000
open Go.RowKit
theorem run_eq_code (n k : Int) (w : World) : (binOp .eql 85 (.iface 129 (.int .i64 n)) (.iface 129 (.int .i64 k))).run Tryz.prog w = .ok (.bool (n == k)) w := by
  have hc : (Tryz.prog.info? 129).map (·.comparable) = some true := by kernel_rfl
  cases hq : Tryz.prog.info? 129 with
  | none => rw [hq] at hc; cases hc
  | some i =>
    have h1 : i.comparable = true := by rw [hq] at hc; simpa using hc
    have e : (Op.equalIn 9999 129 (.int .i64 n) (.int .i64 k)).run Tryz.prog w = .ok (n == k) w := by
      unfold Op.equalIn
      simp [run_underlying Tryz.underlying129]
    have e2 : (Op.equalIn 10000 85 (.iface 129 (.int .i64 n)) (.iface 129 (.int .i64 k))).run Tryz.prog w = .ok (n == k) w := by
      rw [show (10000 : Nat) = 9999 + 1 from rfl]
      unfold Op.equalIn
      simp [run_underlying Tryz.underlying85, typeInfo, hq, h1, e]
    simp [binOp, Op.equal, Op.maxDepth, e2]
attribute [local go_sem ↓] run_eq_code
end Go.Proofs.YthbjgfennclidaaGreat
/- What the arguments of the laws read as: rows of plain rows. -/
namespace Go.Proofs.YthbjgfennclidaaGreat
set_option linter.unusedVariables false
set_option linter.unusedSimpArgs false
set_option maxRecDepth 100000
open Go.ChangeShapes Go.WideShapes Go.ChangeAt Go.RowKit Go.Deep
section
variable {H : Type} {enc : TypeId × Value → H} {w : World} {base : Nat} {spare : Nat → Bool} {held : Bool} {fuel : Nat} {cs : List Value} {x : DataW H × List MemPlace}
set_option maxRecDepth 100000 in
theorem trod_rows (h : DataW.trod enc Tryz.prog w base spare held fuel 26 cs = some x) : ∃ (l : List Itm) (v : Value), cs = [v] ∧ Row 9 rc w l v := by
  rcases open_slice Tryz.underlying26 h with ⟨rfl, _⟩ | ⟨a, len, cap, m, n, D, Pl, rfl, _, hl, hm, hmm, _, hx⟩
  · exact ⟨[], _, rfl, none, 0, 0, 0, rfl, Nat.le_refl _, by decide, fun h => absurd h (by simp), fun k f hk => by simp at hk, fun i hi => by simp at hi⟩
  · have hlm : len ≤ m := by rw [hmm]; split <;> omega
    have hC : Tryz.prog.cellsOf 132 = 9 := by kernel_rfl
    rw [hC] at hx
    have key : ∀ i, i < len → ∃ (f : Itm), (∀ j z, (rc f)[j]? = some z → w.cell? (a.add (i * 9 + j)) = some z) ∧ f.id.size ≤ maxLen ∧ f.kd.size ≤ maxLen := by
      intro i hi
      obtain ⟨cs', h2, h3⟩ := hx i (by omega)
      obtain ⟨_, hcl, hat⟩ := World.cells?_some h2
      obtain ⟨id, r, c, st, kd, n, x, y, d, rfl, h4, h5, _⟩ := trod_row h3
      refine ⟨⟨id, r, c, st, kd, n, x, y, d⟩, fun j z hz => ?_, h4, h5⟩
      have hj : j < 9 := (List.getElem?_eq_some_iff.1 hz).1
      rw [← Go.Deep.add_add, hat j hj, hz]
    classical
    let F : Nat → Itm := fun i => if h : i < len then (key i h).choose else Itm.zero
    have hF : ∀ i, i < len → (∀ j z, (rc (F i))[j]? = some z → w.cell? (a.add (i * 9 + j)) = some z) ∧ (F i).id.size ≤ maxLen ∧ (F i).kd.size ≤ maxLen := by
      intro i hi
      have := (key i hi).choose_spec
      simp only [F, dif_pos hi]
      exact this
    have hlk : ((List.range len).map F).length = len := by simp
    have hs : 0 < len → a.spot = none ∧ a.block < w.heap.size := by
      intro h0
      have h1 := (hF 0 h0).1 0 _ rfl
      have e : a.add (0 * 9 + 0) = a := by simp [Addr.add]
      rw [e] at h1
      exact ⟨World.cell?_spot h1, World.block_lt_of_cell? w _ h1⟩
    refine ⟨(List.range len).map F, _, rfl, some a, cap, a.block, a.off, by rw [hlk], by rw [hlk]; exact hl, hm, fun h => ?_, fun k f hk j z hz => ?_, fun f hf => ?_⟩
    · rw [hlk] at h
      exact ⟨congrArg some (addr_lit (hs h).1), (hs h).2⟩
    · obtain ⟨hk', rfl⟩ := map_range F hk
      have h1 := (hF k hk').1 j z hz
      rw [addr_at (hs (by omega)).1] at h1
      rw [Nat.add_assoc]; exact h1
    · obtain ⟨k, hk, e⟩ := List.mem_iff_getElem.1 hf
      obtain ⟨hk', rfl⟩ := map_range F (by rw [List.getElem?_eq_getElem hk, e])
      exact (hF k hk').2
end
end Go.Proofs.YthbjgfennclidaaGreat
