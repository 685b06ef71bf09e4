/- Rows of items, and of plain rows: how they lie. No walk. -/
import Derived.Test.YtbojpdlidgmckaaOwn
namespace Go.Proofs.Ytbojpdlidgmckaa
set_option linter.unusedVariables false
set_option linter.unusedSimpArgs false
open Go.RowKit

/-- An item, or a row. -/
structure Itm where
  id : ByteArray
  r : Int
  c : Int
  st : Int
  kd : ByteArray
  num : Int
  x : Nat
  y : Nat
  d : Bool
def Itm.zero : Itm := ⟨⟨#[]⟩, 0, 0, 0, ⟨#[]⟩, 0, 0, 0, false⟩
/-- Cells of an item; of a row. -/
abbrev ic (i : Itm) : List Value := [.string i.id, .int .i64 i.r, .int .i64 i.c, .int .i64 i.st, .string i.kd, .int .i64 i.num, .complex .f64 i.x i.y, .bool i.d]
abbrev rc (i : Itm) : List Value := [.string i.id, .int .i64 i.r, .int .i64 i.c, .int .i64 i.st, .string i.kd, .int .i64 i.num, .float .f64 i.x, .float .f64 i.y, .bool i.d]
abbrev iV (i : Itm) : Value := .agg #[.string i.id, .int .i64 i.r, .int .i64 i.c, .int .i64 i.st, .string i.kd, .int .i64 i.num, .complex .f64 i.x i.y, .bool i.d]
abbrev rV (i : Itm) : Value := .agg #[.string i.id, .int .i64 i.r, .int .i64 i.c, .int .i64 i.st, .string i.kd, .int .i64 i.num, .float .f64 i.x, .float .f64 i.y, .bool i.d]

theorem some_posI {α : Type} {l : List α} {k : Nat} {a : α} (h : l[k]? = some a) : k < l.length := (List.getElem?_eq_some_iff.1 h).1
structure RowAt (sz : Nat) (f : Itm → List Value) (w : World) (l : List Itm) (oa : Option Addr) (cap b o : Nat) : Prop where
  len : l.length ≤ cap
  max : cap ≤ maxLen
  at0 : 0 < l.length → oa = some ⟨b, o, none⟩ ∧ b < w.heap.size
  cell : ∀ k i, l[k]? = some i → ∀ j u, (f i)[j]? = some u → w.cell? ⟨b, o + k * sz + j, none⟩ = some u
  ok : ∀ i ∈ l, i.id.size ≤ maxLen ∧ i.kd.size ≤ maxLen
def Row (sz : Nat) (f : Itm → List Value) (w : World) (l : List Itm) (v : Value) : Prop := ∃ oa cap b o, v = .slice oa l.length cap ∧ RowAt sz f w l oa cap b o
theorem RowAt.later {sz : Nat} {f : Itm → List Value} {w w' : World} {l : List Itm} {oa : Option Addr} {cap b o : Nat} (h : RowAt sz f w l oa cap b o) (hb : Below w.heap.size w w') : RowAt sz f w' l oa cap b o := by
  refine ⟨h.len, h.max, fun h0 => ⟨(h.at0 h0).1, Nat.lt_of_lt_of_le (h.at0 h0).2 hb.size⟩, fun k i hk j u hu => ?_, h.ok⟩
  have hlt : b < w.heap.size := (h.at0 (by have := some_posI hk; omega)).2
  exact (hb.cell (p := ⟨b, o + k * sz + j, none⟩) hlt).trans (h.cell k i hk j u hu)
theorem Row.later {sz : Nat} {f : Itm → List Value} {w w' : World} {l : List Itm} {v : Value} (h : Row sz f w l v) (hb : Below w.heap.size w w') : Row sz f w' l v := by
  obtain ⟨oa, cap, b, o, e, h⟩ := h
  exact ⟨oa, cap, b, o, e, h.later hb⟩
theorem ic_cells {w : World} {i : Itm} {b o : Nat} (h : ∀ j u, (ic i)[j]? = some u → w.cell? ⟨b, o + j, none⟩ = some u) :
    w.cell? ⟨b, o, none⟩ = some (.string i.id) ∧ w.cell? ⟨b, o + 1, none⟩ = some (.int .i64 i.r) ∧ w.cell? ⟨b, o + 2, none⟩ = some (.int .i64 i.c) ∧ w.cell? ⟨b, o + 3, none⟩ = some (.int .i64 i.st) ∧ w.cell? ⟨b, o + 4, none⟩ = some (.string i.kd) ∧ w.cell? ⟨b, o + 5, none⟩ = some (.int .i64 i.num) ∧ w.cell? ⟨b, o + 6, none⟩ = some (.complex .f64 i.x i.y) ∧ w.cell? ⟨b, o + 7, none⟩ = some (.bool i.d) :=
  ⟨h 0 _ rfl, h 1 _ rfl, h 2 _ rfl, h 3 _ rfl, h 4 _ rfl, h 5 _ rfl, h 6 _ rfl, h 7 _ rfl⟩
theorem rc_cells {w : World} {i : Itm} {b o : Nat} (h : ∀ j u, (rc i)[j]? = some u → w.cell? ⟨b, o + j, none⟩ = some u) :
    w.cell? ⟨b, o, none⟩ = some (.string i.id) ∧ w.cell? ⟨b, o + 1, none⟩ = some (.int .i64 i.r) ∧ w.cell? ⟨b, o + 2, none⟩ = some (.int .i64 i.c) ∧ w.cell? ⟨b, o + 3, none⟩ = some (.int .i64 i.st) ∧ w.cell? ⟨b, o + 4, none⟩ = some (.string i.kd) ∧ w.cell? ⟨b, o + 5, none⟩ = some (.int .i64 i.num) ∧ w.cell? ⟨b, o + 6, none⟩ = some (.float .f64 i.x) ∧ w.cell? ⟨b, o + 7, none⟩ = some (.float .f64 i.y) ∧ w.cell? ⟨b, o + 8, none⟩ = some (.bool i.d) :=
  ⟨h 0 _ rfl, h 1 _ rfl, h 2 _ rfl, h 3 _ rfl, h 4 _ rfl, h 5 _ rfl, h 6 _ rfl, h 7 _ rfl, h 8 _ rfl⟩

/-! ### A row that the call owns -/
def cellsI (l : List Itm) : List Value := l.flatMap ic
theorem cellsI_len (l : List Itm) : (cellsI l).length = l.length * 8 := by
  induction l with
  | nil => rfl
  | cons i l ih => simp only [cellsI, List.flatMap_cons, List.length_append, List.length_cons, List.length_nil] at *; omega
theorem cellsI_append (l m : List Itm) : cellsI (l ++ m) = cellsI l ++ cellsI m := by simp [cellsI]
theorem cellsI_one (i : Itm) : cellsI [i] = ic i := by simp [cellsI]
theorem cellsI_get (l : List Itm) (k : Nat) (i : Itm) (hk : l[k]? = some i) (j : Nat) (hj : j < 8) : (cellsI l)[k * 8 + j]? = (ic i)[j]? := by
  induction l generalizing k with
  | nil => simp at hk
  | cons a l ih =>
    have e : cellsI (a :: l) = ic a ++ cellsI l := rfl
    rw [e]
    cases k with
    | zero =>
      simp at hk; subst hk
      rw [Nat.zero_mul, Nat.zero_add, List.getElem?_append_left (by simpa using hj)]
    | succ k =>
      simp at hk
      rw [List.getElem?_append_right (by simp; omega), show (k + 1) * 8 + j - (ic a).length = k * 8 + j by simp; omega]
      exact ih k hk
def OwnI (w : World) (base : Nat) (l : List Itm) (v : Value) : Prop := w.ownsRow base 34 8 v l.length (cellsI l)
theorem OwnI.nil (w : World) (base : Nat) : OwnI w base [] (.slice none 0 0) := World.ownsRow_nil _ _ _ _
theorem OwnI.later {w w' : World} {base : Nat} {l : List Itm} {v : Value} (h : OwnI w base l v) (hb : Below w.heap.size w w') : OwnI w' base l v := ownsRow_below h hb
theorem OwnI.alloc {w : World} {base : Nat} {l : List Itm} {v : Value} (h : OwnI w base l v) (o : Obj) : OwnI (w.alloc o) base l v := h.later ((Below.refl _ _).alloc (Nat.le_refl _) _)
theorem OwnI.mono {w : World} {base base' : Nat} {l : List Itm} {v : Value} (h : OwnI w base l v) (hb : base' ≤ base) : OwnI w base' l v := by
  obtain ⟨h1, h2⟩ := h
  refine ⟨h1, ?_⟩
  rcases h2 with h2 | ⟨g, cap, cur, hv, hg, r⟩
  · exact .inl h2
  · exact .inr ⟨g, cap, cur, hv, Nat.le_trans hb hg, r⟩
theorem OwnI.row {w : World} {base : Nat} {l : List Itm} {v : Value} (h : OwnI w base l v) (hok : ∀ i ∈ l, i.id.size ≤ maxLen ∧ i.kd.size ≤ maxLen) : Row 8 ic w l v := by
  obtain ⟨oa, cap, g, e, h1, h2, hg⟩ := row_slice h
  subst e
  refine ⟨oa, cap, g, 0, rfl, h1, h2, fun h0 => ⟨(hg h0).1, (hg h0).2.2⟩, fun k i hk j u hu => ?_, hok⟩
  have hlt := some_posI hk
  obtain ⟨rfl, _⟩ := hg (by omega)
  have hj : j < 8 := (List.getElem?_eq_some_iff.1 hu).1
  unfold OwnI at h
  rw [Nat.zero_add, h.cellAt (k * 8 + j) (by omega), cellsI_get l k i hk j hj]
  exact hu
theorem itI_one (i : Itm) : ∀ u ∈ ic i, u.oneCell' = true := by
  intro u hu
  simp only [ic, List.mem_cons, List.not_mem_nil, or_false] at hu
  rcases hu with rfl | rfl | rfl | rfl | rfl | rfl | rfl | rfl <;> rfl
theorem newsI {w : World} {i : Itm} {t : TypeId} : ∀ j u, (ic i)[j]? = some u → (w.alloc (.cells #[.string i.id, .int .i64 i.r, .int .i64 i.c, .int .i64 i.st, .string i.kd, .int .i64 i.num, .complex .f64 i.x i.y, .bool i.d] t)).cell? ((⟨w.heap.size, 0, none⟩ : Addr).add j) = some u :=
  World.news_of_block (cs := #[.string i.id, .int .i64 i.r, .int .i64 i.c, .int .i64 i.st, .string i.kd, .int .i64 i.num, .complex .f64 i.x i.y, .bool i.d]) (t := t) (fr := (0, 0)) (heap_alloc_new w _)
theorem OwnI.push {w : World} {base n g cap : Nat} {l : List Itm} {i : Itm} (h : w.ownsRow base 34 8 (.slice (some ⟨g, 0, none⟩) n cap) n (cellsI l ++ ic i)) (hn : n = l.length + 1) : OwnI w base (l ++ [i]) (.slice (some ⟨g, 0, none⟩) n cap) := by
  unfold OwnI
  rw [cellsI_append, cellsI_one, List.length_append]
  subst hn
  exact h
theorem rowI_news {w : World} {l : List Itm} {oa : Option Addr} {cap b o n : Nat} (h : RowAt 8 ic w l oa cap b o) (hn : l.length = n) : ∀ j u, (cellsI l)[j]? = some u → w.cell? ((⟨b, o, none⟩ : Addr).add j) = some u := by
  intro j u hu
  have hadd : (⟨b, o, none⟩ : Addr).add j = ⟨b, o + j, none⟩ := by unfold Addr.add; split <;> simp_all
  rw [hadd]
  have hj := (List.getElem?_eq_some_iff.1 hu).1
  rw [cellsI_len] at hj
  have hi : j / 8 < l.length := by omega
  have hp : l[j / 8]? = some l[j / 8] := List.getElem?_eq_getElem hi
  have e : j = j / 8 * 8 + j % 8 := by omega
  rw [e, cellsI_get _ _ _ hp _ (by omega)] at hu
  have := h.cell _ _ hp _ _ hu
  rw [show o + j / 8 * 8 + j % 8 = o + j by omega] at this
  exact this
theorem takeI {l : List Itm} {k : Nat} {i : Itm} (h : l[k]? = some i) : l.take (k + 1) = l.take k ++ [i] := by
  obtain ⟨hk, e⟩ := List.getElem?_eq_some_iff.1 h
  rw [List.take_succ_eq_append_getElem hk, e]
theorem OwnI.len {w : World} {base : Nat} {l : List Itm} {v : Value} (h : OwnI w base l v) : ∃ oa cap, v = .slice oa l.length cap := by
  obtain ⟨oa, cap, g, e, _⟩ := row_slice h
  exact ⟨oa, cap, e⟩
/-- What stays behind an append. -/
theorem below_push {w0 w w' : World} {B base : Nat} {l : List Itm} {v : Value} (h : OwnI w base l v) (hb : Below B w0 w) (hB : B ≤ base) (hg : w.grownBy w' v.ownBlock) (hsz : B ≤ w.heap.size) : Below B w0 w' :=
  hb.grown hg hsz fun k hk => by have := (World.ownsRow.lt h k hk).1; omega

theorem info_item : (Try.prog.info? 34).map (fun i => (i.zero, i.size, i.bytes)) = some (some (.agg #[.string ⟨#[]⟩, .int .i64 0, .int .i64 0, .int .i64 0, .string ⟨#[]⟩, .int .i64 0, .complex .f64 0 0, .bool false]), 8, 88) := by kernel_rfl

end Go.Proofs.Ytbojpdlidgmckaa
