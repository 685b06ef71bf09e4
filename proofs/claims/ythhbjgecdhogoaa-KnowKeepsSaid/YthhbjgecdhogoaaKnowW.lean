/- What is known: how it lies. No walk. -/
import Derived.Test.YthhbjgecdhogoaaKnowM
import Derived.Test.YthhbjgecdhogoaaOwn
namespace Go.Proofs.Ythhbjgecdhogoaa
set_option linter.unusedVariables false
set_option linter.unusedSimpArgs false
open Go.RowKit

/-- Texts that lie there. -/
structure TxAt (w : World) (l : List ByteArray) (oa : Option Addr) (cap b o : Nat) : Prop where
  len : l.length ≤ cap
  max : cap ≤ maxLen
  at0 : 0 < l.length → oa = some ⟨b, o, none⟩ ∧ b < w.heap.size
  cell : ∀ k s, l[k]? = some s → w.cell? ⟨b, o + k, none⟩ = some (.string s)
  ok : ∀ s ∈ l, s.size ≤ maxLen
def TxW (w : World) (l : List ByteArray) (v : Value) : Prop := ∃ oa cap b o, v = .slice oa l.length cap ∧ TxAt w l oa cap b o
theorem posA {α : Type} {l : List α} {k : Nat} {a : α} (h : l[k]? = some a) : k < l.length := (List.getElem?_eq_some_iff.1 h).1
theorem TxAt.later {w w' : World} {l : List ByteArray} {oa : Option Addr} {cap b o B : Nat} (h : TxAt w l oa cap b o) (hb : Below B w w') (hB : w.heap.size ≤ B) : TxAt w' l oa cap b o := by
  refine ⟨h.len, h.max, fun h0 => ⟨(h.at0 h0).1, Nat.lt_of_lt_of_le (h.at0 h0).2 hb.size⟩, fun k s hk => ?_, h.ok⟩
  have hlt : b < w.heap.size := (h.at0 (by have := posA hk; omega)).2
  exact (hb.cell (p := ⟨b, o + k, none⟩) (by show b < B; omega)).trans (h.cell k s hk)
theorem TxW.later {w w' : World} {l : List ByteArray} {v : Value} {B : Nat} (h : TxW w l v) (hb : Below B w w') (hB : w.heap.size ≤ B) : TxW w' l v := by
  obtain ⟨oa, cap, b, o, e, h⟩ := h
  exact ⟨oa, cap, b, o, e, h.later hb hB⟩
theorem TxW.val {w : World} {l : List ByteArray} {v : Value} (h : TxW w l v) : ∃ oa cap, v = .slice oa l.length cap := by
  obtain ⟨oa, cap, _, _, e, _⟩ := h
  exact ⟨oa, cap, e⟩
theorem TxW.ok {w : World} {l : List ByteArray} {v : Value} (h : TxW w l v) : ∀ s ∈ l, s.size ≤ maxLen := by
  obtain ⟨_, _, _, _, _, h⟩ := h
  exact h.ok

/-- Pieces that lie there. -/
abbrev fc (f : Fr) (u : Value) : List Value := [u, .int .i64 (f.v 0), .int .i64 (f.v 1), .int .i64 (f.v 2), .int .i64 (f.v 3), .int .i64 (f.v 4), .int .i64 (f.v 5), .int .i64 (f.v 6), .int .i64 (f.v 7)]
structure FrAt (w : World) (l : List Fr) (U : Nat → Value) (oa : Option Addr) (cap b o : Nat) : Prop where
  len : l.length ≤ cap
  max : cap ≤ maxLen
  at0 : 0 < l.length → oa = some ⟨b, o, none⟩ ∧ b < w.heap.size
  cell : ∀ k f, l[k]? = some f → ∀ j u, (fc f (U k))[j]? = some u → w.cell? ⟨b, o + k * 9 + j, none⟩ = some u
  ids : ∀ k f, l[k]? = some f → TxW w f.ids (U k)
def FrW (w : World) (l : List Fr) (v : Value) : Prop := ∃ U oa cap b o, v = .slice oa l.length cap ∧ FrAt w l U oa cap b o
theorem FrAt.later {w w' : World} {l : List Fr} {U : Nat → Value} {oa : Option Addr} {cap b o B : Nat} (h : FrAt w l U oa cap b o) (hb : Below B w w') (hB : w.heap.size ≤ B) : FrAt w' l U oa cap b o := by
  refine ⟨h.len, h.max, fun h0 => ⟨(h.at0 h0).1, Nat.lt_of_lt_of_le (h.at0 h0).2 hb.size⟩, fun k f hk j u hu => ?_, fun k f hk => (h.ids k f hk).later hb hB⟩
  have hlt : b < w.heap.size := (h.at0 (by have := posA hk; omega)).2
  exact (hb.cell (p := ⟨b, o + k * 9 + j, none⟩) (by show b < B; omega)).trans (h.cell k f hk j u hu)
theorem FrW.later {w w' : World} {l : List Fr} {v : Value} {B : Nat} (h : FrW w l v) (hb : Below B w w') (hB : w.heap.size ≤ B) : FrW w' l v := by
  obtain ⟨U, oa, cap, b, o, e, h⟩ := h
  exact ⟨U, oa, cap, b, o, e, h.later hb hB⟩
theorem FrW.val {w : World} {l : List Fr} {v : Value} (h : FrW w l v) : ∃ oa cap, v = .slice oa l.length cap := by
  obtain ⟨_, oa, cap, _, _, e, _⟩ := h
  exact ⟨oa, cap, e⟩
theorem fc_cells {w : World} {f : Fr} {u : Value} {b o : Nat} (h : ∀ j z, (fc f u)[j]? = some z → w.cell? ⟨b, o + j, none⟩ = some z) :
    w.cell? ⟨b, o, none⟩ = some u ∧ w.cell? ⟨b, o + 1, none⟩ = some (.int .i64 (f.v 0)) ∧ w.cell? ⟨b, o + 2, none⟩ = some (.int .i64 (f.v 1)) ∧ w.cell? ⟨b, o + 3, none⟩ = some (.int .i64 (f.v 2)) ∧ w.cell? ⟨b, o + 4, none⟩ = some (.int .i64 (f.v 3)) ∧ w.cell? ⟨b, o + 5, none⟩ = some (.int .i64 (f.v 4)) ∧ w.cell? ⟨b, o + 6, none⟩ = some (.int .i64 (f.v 5)) ∧ w.cell? ⟨b, o + 7, none⟩ = some (.int .i64 (f.v 6)) ∧ w.cell? ⟨b, o + 8, none⟩ = some (.int .i64 (f.v 7)) :=
  ⟨h 0 _ rfl, h 1 _ rfl, h 2 _ rfl, h 3 _ rfl, h 4 _ rfl, h 5 _ rfl, h 6 _ rfl, h 7 _ rfl, h 8 _ rfl⟩
/-- What is known, as a value; its cells. -/
abbrev knV (A : Nat → Int) (v : Value) : Value := .agg #[.int .i64 (A 0), .int .i64 (A 1), .int .i64 (A 2), .int .i64 (A 3), .int .i64 (A 4), .int .i64 (A 5), .int .i64 (A 6), .int .i64 (A 7), v]
abbrev knA (A : Nat → Int) (v : Value) : Array Value := #[.int .i64 (A 0), .int .i64 (A 1), .int .i64 (A 2), .int .i64 (A 3), .int .i64 (A 4), .int .i64 (A 5), .int .i64 (A 6), .int .i64 (A 7), v]

/-! ### Texts that the call owns -/
def txC (l : List ByteArray) : List Value := l.map .string
def OwnT (w : World) (base : Nat) (l : List ByteArray) (v : Value) : Prop := w.ownsRow base 9 1 v l.length (txC l)
theorem OwnT.nil (w : World) (base : Nat) : OwnT w base [] (.slice none 0 0) := World.ownsRow_nil _ _ _ _
theorem OwnT.later {w w' : World} {base : Nat} {l : List ByteArray} {v : Value} (h : OwnT w base l v) (hb : Below w.heap.size w w') : OwnT w' base l v := ownsRow_below h hb
theorem OwnT.alloc {w : World} {base : Nat} {l : List ByteArray} {v : Value} (h : OwnT w base l v) (o : Obj) : OwnT (w.alloc o) base l v := h.later ((Below.refl _ _).alloc (Nat.le_refl _) _)
theorem OwnT.mono {w : World} {base base' : Nat} {l : List ByteArray} {v : Value} (h : OwnT w base l v) (hb : base' ≤ base) : OwnT w base' l v := by
  obtain ⟨h1, h2⟩ := h
  refine ⟨h1, ?_⟩
  rcases h2 with h2 | ⟨g, cap, cur, hv, hg, r⟩
  · exact .inl h2
  · exact .inr ⟨g, cap, cur, hv, Nat.le_trans hb hg, r⟩
theorem OwnT.val {w : World} {base : Nat} {l : List ByteArray} {v : Value} (h : OwnT w base l v) : ∃ oa cap, v = .slice oa l.length cap := by
  obtain ⟨oa, cap, g, e, _⟩ := row_slice h
  exact ⟨oa, cap, e⟩
theorem OwnT.tx {w : World} {base : Nat} {l : List ByteArray} {v : Value} (h : OwnT w base l v) (hok : ∀ s ∈ l, s.size ≤ maxLen) : TxW w l v := by
  obtain ⟨oa, cap, g, e, h1, h2, hg⟩ := row_slice h
  subst e
  refine ⟨oa, cap, g, 0, rfl, h1, h2, fun h0 => ⟨(hg h0).1, (hg h0).2.2⟩, fun k s hk => ?_, hok⟩
  have hlt := posA hk
  obtain ⟨rfl, _⟩ := hg (by omega)
  unfold OwnT at h
  rw [Nat.zero_add, h.cellAt k (by omega)]
  simp [txC, hk]
theorem newsT {w : World} {s : ByteArray} {t : TypeId} : ∀ j u, ([.string s] : List Value)[j]? = some u → (w.alloc (.cells #[.string s] t)).cell? ((⟨w.heap.size, 0, none⟩ : Addr).add j) = some u :=
  World.news_of_block (cs := #[.string s]) (t := t) (fr := (0, 0)) (heap_alloc_new w _)
theorem oneT (s : ByteArray) : ∀ u ∈ ([.string s] : List Value), u.oneCell' = true := by
  intro u hu; simp at hu; subst hu; rfl
theorem OwnT.push {w : World} {base n g cap : Nat} {l : List ByteArray} {s : ByteArray} (h : w.ownsRow base 9 1 (.slice (some ⟨g, 0, none⟩) n cap) n (txC l ++ [.string s])) (hn : n = l.length + 1) : OwnT w base (l ++ [s]) (.slice (some ⟨g, 0, none⟩) n cap) := by
  unfold OwnT
  rw [List.length_append, txC, List.map_append]
  subst hn
  exact h
theorem below_pushT {w0 w w' : World} {B base : Nat} {l : List ByteArray} {v : Value} (h : OwnT w base l v) (hb : Below B w0 w) (hB : B ≤ base) (hg : w.grownBy w' v.ownBlock) (hsz : B ≤ w.heap.size) : Below B w0 w' :=
  hb.grown hg hsz fun k hk => by have := (World.ownsRow.lt h k hk).1; omega
theorem info_text : (Try.prog.info? 9).map (fun i => (i.zero, i.size, i.bytes)) = some (some (.string ⟨#[]⟩), 1, 16) := by kernel_rfl
theorem info_frag : (Try.prog.info? 40).map (fun i => (i.zero, i.size, i.bytes)) = some (some (.agg #[.slice none 0 0, .int .i64 0, .int .i64 0, .int .i64 0, .int .i64 0, .int .i64 0, .int .i64 0, .int .i64 0, .int .i64 0]), 9, 88) := by kernel_rfl
theorem takeT {α : Type} {l : List α} {k : Nat} {i : α} (h : l[k]? = some i) : l.take (k + 1) = l.take k ++ [i] := by
  obtain ⟨hk, e⟩ := List.getElem?_eq_some_iff.1 h
  rw [List.take_succ_eq_append_getElem hk, e]

end Go.Proofs.Ythhbjgecdhogoaa
