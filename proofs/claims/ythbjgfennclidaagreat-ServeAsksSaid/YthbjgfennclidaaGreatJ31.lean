/- Joined: RefOwnK, RefSt6, StN, RegP, MsM. -/
import Derived.Test.YthbjgfennclidaaGreatJ26
import Derived.Test.YthbjgfennclidaaGreatJ28
import Derived.Test.YthbjgfennclidaaGreatJ10
import Derived.Test.YthbjgfennclidaaGreatJ22
/- What is known: the document's Own, walked. -/
namespace Go.Proofs.YthbjgfennclidaaGreat
set_option linter.unusedVariables false
set_option linter.unusedSimpArgs false
set_option maxRecDepth 100000
open Go.RowKit
structure OwS (w : World) (X Y Z : Array Value) (W : World) : Prop where
  o1 : Own W w.heap.size X 31
  o2 : Own W (w.heap.size + 1) Y 66
  o3 : Own W (w.heap.size + 1 + 1) Z 31
  be : Below w.heap.size w W
theorem OwS.later {w W W' : World} {X Y Z : Array Value} (h : OwS w X Y Z W) (hb : Below W.heap.size W W') : OwS w X Y Z W' :=
  ⟨h.o1.later hb, h.o2.later hb, h.o3.later hb, h.be.trans (hb.mono h.be.size)⟩
end Go.Proofs.YthbjgfennclidaaGreat
/- A version is made: the document's answer, walked. -/
namespace Go.Proofs.YthbjgfennclidaaGreat
set_option linter.unusedVariables false
set_option linter.unusedSimpArgs false
set_option maxRecDepth 100000
open Go.RowKit
theorem FrFresh.stays {w w' : World} {B : Nat} {l : List Fr} {v : Value} (h : FrFresh w B l v) (hb : Below w.heap.size w w') : FrFresh w' B l v := fun w'' h1 h2 =>
  h w'' (fun b hB hlt => (h1 b hB (Nat.lt_of_lt_of_le hlt hb.size)).trans (hb.block b hlt)) (Nat.le_trans hb.size h2)
theorem FrFresh.sets {B b : Nat} {l : List Fr} {v : Value} (hb : b < B) (vs : List Value) : ∀ {w : World} (o : Nat), FrFresh w B l v → FrFresh (w.setCells b o vs) B l v := by
  induction vs with
  | nil => intro w o h; exact h
  | cons u vs ih => intro w o h; exact ih (o + 1) (h.setLow (a := ⟨b, o, none⟩) hb u)
def StX (w : World) (B : Nat) (s s' : St) (sv ov kv sv' ov' kv' : Value) : Prop := (s' = s ∧ sv' = sv ∧ ov' = ov ∧ kv' = kv) ∨ (s'.f = s.f ∧ RowF w B s'.store sv' ∧ RowF w B s'.out ov' ∧ FrFresh w B s'.k.l kv')
theorem StX.refl (w : World) (B : Nat) (s : St) (sv ov kv : Value) : StX w B s s sv ov kv sv ov kv := .inl ⟨rfl, rfl, rfl, rfl⟩
theorem StX.mono {w : World} {B B' : Nat} {s s' : St} {sv ov kv sv' ov' kv' : Value} (h : StX w B s s' sv ov kv sv' ov' kv') (hb : B' ≤ B) : StX w B' s s' sv ov kv sv' ov' kv' :=
  h.imp id fun ⟨h0, h1, h2, h3⟩ => ⟨h0, h1.mono hb, h2.mono hb, h3.mono hb⟩
theorem StX.later {w w' : World} {B : Nat} {s s' : St} {sv ov kv sv' ov' kv' : Value} (h : StX w B s s' sv ov kv sv' ov' kv') (hb : Below w.heap.size w w') : StX w' B s s' sv ov kv sv' ov' kv' :=
  h.imp id fun ⟨h0, h1, h2, h3⟩ => ⟨h0, h1.later hb, h2.later hb, h3.stays hb⟩
theorem StX.sets {w : World} {B b : Nat} {s s' : St} {sv ov kv sv' ov' kv' : Value} (h : StX w B s s' sv ov kv sv' ov' kv') (hb : b < B) (vs : List Value) : StX (w.setCells b 0 vs) B s s' sv ov kv sv' ov' kv' :=
  h.imp id fun ⟨h0, h1, h2, h3⟩ => ⟨h0, h1.sets hb vs 0, h2.sets hb vs 0, h3.sets hb vs 0⟩
end Go.Proofs.YthbjgfennclidaaGreat
/- What a deed tells: where it lies. No walk. -/
namespace Go.Proofs.YthbjgfennclidaaGreat
set_option linter.unusedVariables false
set_option linter.unusedSimpArgs false
set_option maxRecDepth 100000
open Go.RowKit
def LPF (w : World) (B : Nat) (p : Pr) (v : Value) : Prop := Lies 5 pc (fun b => B ≤ b ∧ b < w.heap.size) w p v
theorem LPF.lp {w : World} {B : Nat} {p : Pr} {v : Value} (h : LPF w B p v) : LP w p v := h.mono (fun _ _ _ => rfl) fun _ h => h.2
theorem LPF.later {w w' : World} {B : Nat} {p : Pr} {v : Value} (h : LPF w B p v) (hb : Below w.heap.size w w') : LPF w' B p v :=
  h.mono (fun b o hS => hb.cell (p := ⟨b, o, none⟩) hS.2) fun _ hS => ⟨hS.1, Nat.lt_of_lt_of_le hS.2 hb.size⟩
theorem LPF.mono' {w : World} {B B' : Nat} {p : Pr} {v : Value} (h : LPF w B p v) (hb : B' ≤ B) : LPF w B' p v := h.mono (fun _ _ _ => rfl) fun _ h => ⟨Nat.le_trans hb h.1, h.2⟩
theorem LPF.sets {w : World} {B b : Nat} {p : Pr} {v : Value} (h : LPF w B p v) (hb : b < B) (vs : List Value) : LPF (w.setCells b 0 vs) B p v :=
  h.mono (fun b' o hS => World.cell?_setCells_out b vs 0 w ⟨b', o, none⟩ (fun e _ => by have := hS.1; simp only at e; omega)) fun _ hS => ⟨hS.1, Nat.lt_of_lt_of_le hS.2 (below_sets (B := b) (Nat.le_refl _) vs 0 (Below.refl b w)).size⟩
structure StN (w : World) (B : Nat) (p : Pr) (pv : Value) (l : List Itm) (sv : Value) (m : List Itm) (ov : Value) (k : List Fr) (kv : Value) (U : St) (fv' sv' ov' kv' : Value) : Prop where
  f : (U.f = p ∧ fv' = pv) ∨ LPF w B U.f fv'
  st : (U.store = l ∧ sv' = sv) ∨ RowF w B U.store sv'
  ou : (U.out = m ∧ ov' = ov) ∨ RowF w B U.out ov'
  k : (U.k.l = k ∧ kv' = kv) ∨ FrFresh w B U.k.l kv'
section
variable {w : World} {B : Nat} {p : Pr} {pv : Value} {l : List Itm} {sv : Value} {m : List Itm} {ov : Value} {k : List Fr} {kv : Value} {U : St} {fv' sv' ov' kv' : Value}
theorem StN.later {w' : World} (h : StN w B p pv l sv m ov k kv U fv' sv' ov' kv') (hb : Below w.heap.size w w') : StN w' B p pv l sv m ov k kv U fv' sv' ov' kv' :=
  ⟨h.f.imp id fun h => h.later hb, h.st.imp id fun h => h.later hb, h.ou.imp id fun h => h.later hb, h.k.imp id fun h => h.stays hb⟩
theorem StN.mono {B' : Nat} (h : StN w B p pv l sv m ov k kv U fv' sv' ov' kv') (hb : B' ≤ B) : StN w B' p pv l sv m ov k kv U fv' sv' ov' kv' :=
  ⟨h.f.imp id fun h => h.mono' hb, h.st.imp id fun h => h.mono hb, h.ou.imp id fun h => h.mono hb, h.k.imp id fun h => h.mono hb⟩
theorem StN.sets {b : Nat} (h : StN w B p pv l sv m ov k kv U fv' sv' ov' kv') (hb : b < B) (vs : List Value) : StN (w.setCells b 0 vs) B p pv l sv m ov k kv U fv' sv' ov' kv' :=
  ⟨h.f.imp id fun h => h.sets hb vs, h.st.imp id fun h => h.sets hb vs 0, h.ou.imp id fun h => h.sets hb vs 0, h.k.imp id fun h => h.sets hb vs 0⟩
theorem StX.n {s : St} {fv : Value} (h : StX w B s U sv ov kv sv' ov' kv') : StN w B s.f fv s.store sv s.out ov s.k.l kv U fv sv' ov' kv' := by
  rcases h with ⟨rfl, rfl, rfl, rfl⟩ | ⟨e, h1, h2, h3⟩
  · exact ⟨.inl ⟨rfl, rfl⟩, .inl ⟨rfl, rfl⟩, .inl ⟨rfl, rfl⟩, .inl ⟨rfl, rfl⟩⟩
  · exact ⟨.inl ⟨e, rfl⟩, .inr h1, .inr h2, .inr h3⟩
end
end Go.Proofs.YthbjgfennclidaaGreat
/- What lies where no late store comes: told as 'in every world in which nothing but blocks of T turned'. No walk. -/
namespace Go.Proofs.YthbjgfennclidaaGreat
set_option linter.unusedVariables false
set_option linter.unusedSimpArgs false
set_option maxRecDepth 100000
open Go Go.RowKit
def Sure (T : Nat → Prop) (w : World) (P : World → Prop) : Prop := ∀ w', But T w w' → P w'
section
variable {T : Nat → Prop} {w w' w1 : World} {P : World → Prop}
theorem Sure.now (h : Sure T w P) : P w := h w (But.refl _)
theorem But.mono {T' : Nat → Prop} (h : But T' w w') (hT : ∀ b, T' b → T b) : But T w w' := ⟨h.size, fun b hb ht => h.blk b hb fun h' => ht (hT b h')⟩
theorem Sure.but {T' : Nat → Prop} (h : Sure T w P) (hb : But T' w w') (hT : ∀ b, T' b → T b) : Sure T w' P := fun w2 h2 => h w2 ((hb.mono hT).trans h2)
theorem Sure.later (h : Sure T w P) (hb : Below w.heap.size w w') : Sure T w' P := fun w2 h2 => h w2 ((But.of hb).trans h2)
theorem Sure.mono {T' : Nat → Prop} (h : Sure T w P) (hT : ∀ b, T' b → T b) : Sure T' w P := fun w2 h2 => h w2 (h2.mono hT)
theorem Sure.stored {b : Nat} (h : Sure T w P) (hs : StoreR b w w1) (hT : T b) : Sure T w1 P := h.but hs.but fun k hk => by subst hk; exact hT
theorem Sure.imp {Q : World → Prop} (h : Sure T w P) (hi : ∀ w, P w → Q w) : Sure T w Q := fun w2 h2 => hi _ (h w2 h2)
theorem Sure.and {Q : World → Prop} (h : Sure T w P) (k : Sure T w Q) : Sure T w fun w => P w ∧ Q w := fun w2 h2 => ⟨h w2 h2, k w2 h2⟩
theorem Sure.fresh {b : Nat} (h : Sure T w P) (hb : Later w w1) (hge : w.heap.size ≤ b) : Sure (fun k => T k ∨ k = b) w1 P := fun w2 h2 =>
  h w2 ⟨Nat.le_trans hb.size h2.size, fun k hk ht => (h2.blk k (Nat.lt_of_lt_of_le hk hb.size) (fun e => by rcases e with e | e; exact ht e; omega)).trans (hb.block k hk)⟩
theorem Own.stored {b b' : Nat} {C : Array Value} {t : TypeId} (h : Own w b' C t) (hs : StoreR b w w1) (hne : b' ≠ b) : Own w1 b' C t := h.but hs.but hne
theorem Sure.apped {row : Option Nat} (h : Sure T w P) (hs : AppR row w w1) (hT : ∀ k, some k = row → T k) : Sure T w1 P := h.but hs.but hT
theorem But.cell {b o : Nat} (h : But T w w') (hb : b < w.heap.size) (hT : ¬ T b) : w'.cell? ⟨b, o, none⟩ = w.cell? ⟨b, o, none⟩ := World.cell?_of_block (h.blk b hb hT)
theorem LPF.sure {B : Nat} {p : Pr} {v : Value} (h : LPF w B p v) : Sure (fun b => b < B) w fun w => LP w p v := fun w2 h2 =>
  h.mono (fun b o hS => h2.cell hS.2 (by have := hS.1; omega)) fun b hS => Nat.lt_of_lt_of_le hS.2 h2.size
theorem RowF.sure {B : Nat} {l : List Itm} {v : Value} (h : RowF w B l v) : Sure (fun b => b < B) w fun w => Row 8 ic w l v := fun w2 h2 => by
  obtain ⟨oa, cap, b, o, e, h, hB⟩ := h
  refine ⟨oa, cap, b, o, e, h.len, h.max, fun h0 => ⟨(h.at0 h0).1, Nat.lt_of_lt_of_le (h.at0 h0).2 h2.size⟩, fun k i hk j u hu => ?_, h.ok⟩
  have h0 : 0 < l.length := by have := some_posI hk; omega
  rw [h2.cell (h.at0 h0).2 (by have := hB h0; omega)]
  exact h.cell k i hk j u hu
theorem FrFresh.sure {B : Nat} {l : List Fr} {v : Value} (h : FrFresh w B l v) : Sure (fun b => b < B) w fun w => FrW w l v := fun w2 h2 =>
  h w2 (fun b hb hlt => h2.blk b hlt (by omega)) h2.size
theorem rowCells {w0 wL : World} {l : List Itm} {cap b o k : Nat} {i : Itm} (h : RowAt 8 ic w0 l (some ⟨b, o, none⟩) cap b o) (hb : Below w0.heap.size w0 w) (hL : But T w wL) (hT : ∀ b, b < w0.heap.size → ¬ T b) (hi : l[k]? = some i) :
    wL.cell? ⟨b, o + k * 8, none⟩ = some (.string i.id) ∧ wL.cell? ⟨b, o + k * 8 + 1, none⟩ = some (.int .i64 i.r) ∧ wL.cell? ⟨b, o + k * 8 + 2, none⟩ = some (.int .i64 i.c) ∧ wL.cell? ⟨b, o + k * 8 + 3, none⟩ = some (.int .i64 i.st) ∧ wL.cell? ⟨b, o + k * 8 + 4, none⟩ = some (.string i.kd) ∧ wL.cell? ⟨b, o + k * 8 + 5, none⟩ = some (.int .i64 i.num) ∧ wL.cell? ⟨b, o + k * 8 + 6, none⟩ = some (.complex .f64 i.x i.y) ∧ wL.cell? ⟨b, o + k * 8 + 7, none⟩ = some (.bool i.d) := by
  have hlt : b < w0.heap.size := (h.at0 (by have := some_posI hi; omega)).2
  exact ic_cells fun j u hu => (hL.cell (Nat.lt_of_lt_of_le hlt hb.size) (hT b hlt)).trans ((hb.cell (p := ⟨b, o + k * 8 + j, none⟩) hlt).trans (h.cell k i hi j u hu))
theorem Own.part {b : Nat} {C : Array Value} {t : TypeId} (h : Own w b C t) (off : Nat) (l : List Value) (e : (C.toList.drop off).take l.length = l) : w.rangeAt b off l := fun j v hv => by
  have hj := (List.getElem?_eq_some_iff.1 hv).1
  rw [h.cell (off + j), ← Array.getElem?_toList, ← hv, ← List.getElem?_drop]
  conv => rhs; rw [← e]
  rw [List.getElem?_take_of_lt hj]
end
end Go.Proofs.YthbjgfennclidaaGreat
/- Messages, entries, sessions: what they are as plain data, how they lie. No walk. -/
namespace Go.Proofs.YthbjgfennclidaaGreat
set_option linter.unusedVariables false
set_option linter.unusedSimpArgs false
set_option maxRecDepth 100000
open Go Go.RowKit
structure GAt {α : Type} (sz : Nat) (f : α → List Value) (w : World) (l : List α) (oa : Option Addr) (cap b o : Nat) : Prop where
  len : l.length ≤ cap
  max : cap ≤ maxLen
  at0 : 0 < l.length → oa = some ⟨b, o, none⟩ ∧ b < w.heap.size
  cell : ∀ k i, l[k]? = some i → ∀ j u, (f i)[j]? = some u → w.cell? ⟨b, o + k * sz + j, none⟩ = some u
def GRow {α : Type} (sz : Nat) (f : α → List Value) (w : World) (l : List α) (v : Value) : Prop := ∃ oa cap b o, v = .slice oa l.length cap ∧ GAt sz f w l oa cap b o
section
variable {α : Type} {sz : Nat} {f : α → List Value} {w w' : World} {l : List α} {v : Value}
theorem GRow.later (h : GRow sz f w l v) (hb : Below w.heap.size w w') : GRow sz f w' l v := by
  obtain ⟨oa, cap, b, o, e, h⟩ := h
  refine ⟨oa, cap, b, o, e, h.len, h.max, fun h0 => ⟨(h.at0 h0).1, Nat.lt_of_lt_of_le (h.at0 h0).2 hb.size⟩, fun k i hk j u hu => ?_⟩
  have hlt : b < w.heap.size := (h.at0 (by have := some_posI hk; omega)).2
  exact (hb.cell (p := ⟨b, o + k * sz + j, none⟩) hlt).trans (h.cell k i hk j u hu)
theorem GRow.val (h : GRow sz f w l v) : ∃ oa cap, v = .slice oa l.length cap := by obtain ⟨oa, cap, _, _, e, _⟩ := h; exact ⟨oa, cap, e⟩
theorem GRow.nil : GRow sz f w ([] : List α) (.slice none 0 0) := ⟨none, 0, 0, 0, rfl, Nat.le_refl _, by decide, fun h => absurd h (by simp), fun k i hk => by simp at hk⟩
end
theorem frW_nil' (w : World) : FrW w [] (.slice none 0 0) := ⟨fun _ => .nilFunc, none, 0, 0, 0, rfl, Nat.le_refl _, by decide, fun h => absurd h (by simp), fun k f hk => by simp at hk, fun k f hk => by simp at hk⟩
def gC {α : Type} (f : α → List Value) (l : List α) : List Value := l.flatMap f
def OwnG {α : Type} (e : TypeId) (sz : Nat) (f : α → List Value) (w : World) (base : Nat) (l : List α) (v : Value) : Prop := w.ownsRow base e sz v l.length (gC f l)
section
variable {α : Type} {e : TypeId} {sz : Nat} {f : α → List Value} {w w' w1 : World} {base : Nat} {l : List α} {v : Value}
theorem gC_len (hf : ∀ a, (f a).length = sz) (l : List α) : (gC f l).length = l.length * sz := by
  induction l with
  | nil => simp [gC]
  | cons a l ih => simp only [gC, List.flatMap_cons, List.length_append, List.length_cons, hf, Nat.add_mul, Nat.one_mul] at *; omega
theorem gC_get (hf : ∀ a, (f a).length = sz) (l : List α) (k : Nat) (i : α) (hk : l[k]? = some i) (j : Nat) (hj : j < sz) : (gC f l)[k * sz + j]? = (f i)[j]? := by
  induction l generalizing k with
  | nil => simp at hk
  | cons a l ih =>
    have e : gC f (a :: l) = f a ++ gC f l := rfl
    rw [e]
    cases k with
    | zero =>
      simp at hk; subst hk
      rw [Nat.zero_mul, Nat.zero_add, List.getElem?_append_left (by rw [hf]; exact hj)]
    | succ k =>
      simp at hk
      have : (k + 1) * sz = k * sz + sz := by rw [Nat.add_mul, Nat.one_mul]
      rw [List.getElem?_append_right (by rw [hf]; omega), hf, show (k + 1) * sz + j - sz = k * sz + j by omega]
      exact ih k hk
theorem gC_snoc (l : List α) (a : α) : gC f (l ++ [a]) = gC f l ++ f a := by simp [gC]
theorem OwnG.nil : OwnG e sz f w base ([] : List α) (.slice none 0 0) := World.ownsRow_nil _ _ _ _
theorem OwnG.later (h : OwnG e sz f w base l v) (hb : Below w.heap.size w w') : OwnG e sz f w' base l v := ownsRow_below h hb
theorem OwnG.stored {b : Nat} (h : OwnG e sz f w base l v) (hs : StoreR b w w1) (hb : b < base) : OwnG e sz f w1 base l v := by
  obtain ⟨h1, h2⟩ := h
  refine ⟨h1, ?_⟩
  rcases h2 with h2 | ⟨g, cap, cur, hv, hg, hh, r⟩
  · exact .inl h2
  · have hlt : g < w.heap.size := by
      rcases Nat.lt_or_ge g w.heap.size with hlt | hge
      · exact hlt
      · rw [Array.getElem?_eq_none hge] at hh; cases hh
    exact .inr ⟨g, cap, cur, hv, hg, (hs.but.blk g hlt (by omega)).trans hh, r⟩
theorem OwnG.val (h : OwnG e sz f w base l v) : ∃ oa cap, v = .slice oa l.length cap := by obtain ⟨oa, cap, g, e, _⟩ := row_slice h; exact ⟨oa, cap, e⟩
theorem OwnG.push {n g cap : Nat} {i : α} (h : w.ownsRow base e sz (.slice (some ⟨g, 0, none⟩) n cap) n (gC f l ++ f i)) (hn : n = l.length + 1) : OwnG e sz f w base (l ++ [i]) (.slice (some ⟨g, 0, none⟩) n cap) := by
  unfold OwnG
  rw [gC_snoc, List.length_append]
  subst hn
  exact h
theorem OwnG.row (h : OwnG e sz f w base l v) (hf : ∀ a, (f a).length = sz) : Sure (fun b => b < base) w fun w => GRow sz f w l v := fun w2 h2 => by
  obtain ⟨oa, cap, g, ev, h1, h3, hg⟩ := row_slice h
  subst ev
  refine ⟨oa, cap, g, 0, rfl, h1, h3, fun h0 => ⟨(hg h0).1, Nat.lt_of_lt_of_le (hg h0).2.2 h2.size⟩, fun k i hk j u hu => ?_⟩
  have hlt := some_posI hk
  obtain ⟨rfl, hgb, hgs⟩ := hg (by omega)
  have hj : j < sz := by have := (List.getElem?_eq_some_iff.1 hu).1; rwa [hf] at this
  unfold OwnG at h
  have hm : k * sz + j < l.length * sz := by have : (k + 1) * sz ≤ l.length * sz := Nat.mul_le_mul_right sz hlt; rw [Nat.add_mul, Nat.one_mul] at this; omega
  rw [Nat.zero_add, h2.cell hgs (by omega), h.cellAt (k * sz + j) hm, gC_get hf l k i hk j hj]
  exact hu
end
theorem GRow.has {w : World} {l : List Itm} {v : Value} {f : Itm → List Value} {sz : Nat} (h : GRow sz f w l v) (hok : ∀ i ∈ l, i.id.size ≤ maxLen ∧ i.kd.size ≤ maxLen) : Row sz f w l v := by
  obtain ⟨oa, cap, b, o, e, h⟩ := h
  exact ⟨oa, cap, b, o, e, h.len, h.max, h.at0, h.cell, hok⟩
abbrev hc (i : Itm) : List Value := [.string i.id, .int .i64 i.r, .int .i64 i.c, .int .i64 i.st]
structure En where
  x : Itm
  goes : Bool
  nr : Int
  nc : Int
abbrev ec (e : En) : List Value := [.string e.x.id, .int .i64 e.x.r, .int .i64 e.x.c, .int .i64 e.x.st, .string e.x.kd, .int .i64 e.x.num, .complex .f64 e.x.x e.x.y, .bool e.x.d, .bool e.goes, .int .i64 e.nr, .int .i64 e.nc]
abbrev eA (e : En) : Array Value := #[.string e.x.id, .int .i64 e.x.r, .int .i64 e.x.c, .int .i64 e.x.st, .string e.x.kd, .int .i64 e.x.num, .complex .f64 e.x.x e.x.y, .bool e.x.d, .bool e.goes, .int .i64 e.nr, .int .i64 e.nc]
structure Mg where
  kind : Int
  frm : Int
  dst : Int
  sid : Int
  turn : Int
  f : Pr
  k : Kn
  has : List Itm
  n : Int
  l : List En
  star : Bool
abbrev mgA (m : Mg) (fv kv hv lv : Value) : Array Value := #[.int .i64 m.kind, .int .i64 m.frm, .int .i64 m.dst, .int .i64 m.sid, .int .i64 m.turn, .int .i64 m.f.op, .string m.f.text, .int .i64 m.f.n, .complex .f64 m.f.x m.f.y, fv, .int .i64 (m.k.star 0), .int .i64 (m.k.star 1), .int .i64 (m.k.star 2), .int .i64 (m.k.star 3), .int .i64 (m.k.star 4), .int .i64 (m.k.star 5), .int .i64 (m.k.star 6), .int .i64 (m.k.star 7), kv, hv, .int .i64 m.n, lv, .bool m.star]
structure MgW (w : World) (m : Mg) (fv kv hv lv : Value) : Prop where
  lf : LP w m.f fv
  lk : FrW w m.k.l kv
  lh : Row 4 hc w m.has hv
  ll : GRow 11 ec w m.l lv
theorem MgW.later {w w' : World} {m : Mg} {fv kv hv lv : Value} (h : MgW w m fv kv hv lv) (hb : Below w.heap.size w w') : MgW w' m fv kv hv lv :=
  ⟨h.lf.later hb (Nat.le_refl _), h.lk.later hb (Nat.le_refl _), h.lh.later hb, h.ll.later hb⟩
structure Ss where
  sid : Int
  wth : Int
  epoch : Int
  turn : Int
  got : List Int
  bad : Bool
  told : Bool
  over : Bool
  n : Int
  k : Kn
  l : List En
abbrev ssA (x : Ss) (gv kv lv : Value) : Array Value := #[.int .i64 x.sid, .int .i64 x.wth, .int .i64 x.epoch, .int .i64 x.turn, gv, .bool x.bad, .bool x.told, .bool x.over, .int .i64 x.n, .int .i64 (x.k.star 0), .int .i64 (x.k.star 1), .int .i64 (x.k.star 2), .int .i64 (x.k.star 3), .int .i64 (x.k.star 4), .int .i64 (x.k.star 5), .int .i64 (x.k.star 6), .int .i64 (x.k.star 7), kv, lv]
abbrev nc1 (n : Int) : List Value := [.int .i64 n]
structure SsW (w : World) (x : Ss) (gv kv lv : Value) : Prop where
  lg : GRow 1 nc1 w x.got gv
  lk : FrW w x.k.l kv
  ll : GRow 11 ec w x.l lv
theorem SsW.later {w w' : World} {x : Ss} {gv kv lv : Value} (h : SsW w x gv kv lv) (hb : Below w.heap.size w w') : SsW w' x gv kv lv :=
  ⟨h.lg.later hb, h.lk.later hb (Nat.le_refl _), h.ll.later hb⟩
abbrev nilV : Value := .slice none 0 0
abbrev mgZ : Array Value := #[.int .i64 0, .int .i64 0, .int .i64 0, .int .i64 0, .int .i64 0, .int .i64 0, .string ⟨#[]⟩, .int .i64 0, .complex .f64 0 0, nilV, .int .i64 0, .int .i64 0, .int .i64 0, .int .i64 0, .int .i64 0, .int .i64 0, .int .i64 0, .int .i64 0, nilV, nilV, .int .i64 0, nilV, .bool false]
abbrev ssZ : Array Value := #[.int .i64 0, .int .i64 0, .int .i64 0, .int .i64 0, nilV, .bool false, .bool false, .bool false, .int .i64 0, .int .i64 0, .int .i64 0, .int .i64 0, .int .i64 0, .int .i64 0, .int .i64 0, .int .i64 0, .int .i64 0, nilV, nilV]
def askO (s : St) (wth sid : Int) : Mg := ⟨1, s.r, wth, sid, 0, s.f, s.k, s.store, 0, [], false⟩
def askX (s : St) (wth sid : Int) : Ss := ⟨sid, wth, s.epoch, 0, [], false, false, false, 0, ⟨zeroV, []⟩, []⟩
theorem two_new (w1 : World) (Z1 Z2 : Array Value) (t1 t2 : TypeId) (l1 l2 : List Value) (h1 : l1.length = Z1.size) (h2 : l2.length = Z2.size) :
    Own ((((w1.alloc (.cells Z1 t1)).alloc (.cells Z2 t2)).setCells w1.heap.size 0 l1).setCells (w1.heap.size + 1) 0 l2) w1.heap.size l1.toArray t1 ∧ Own ((((w1.alloc (.cells Z1 t1)).alloc (.cells Z2 t2)).setCells w1.heap.size 0 l1).setCells (w1.heap.size + 1) 0 l2) (w1.heap.size + 1) l2.toArray t2 ∧
      Later w1 ((((w1.alloc (.cells Z1 t1)).alloc (.cells Z2 t2)).setCells w1.heap.size 0 l1).setCells (w1.heap.size + 1) 0 l2) := by
  have a := (Own.new w1 Z1 t1).alloc (.cells Z2 t2)
  have b := Own.newAt (w1.alloc (.cells Z1 t1)) Z2 t2 (b := w1.heap.size + 1) (by simp)
  have hb : Below w1.heap.size w1 ((w1.alloc (.cells Z1 t1)).alloc (.cells Z2 t2)) := ((Below.refl w1.heap.size w1).alloc (Nat.le_refl _) _).alloc (by simp) _
  exact ⟨Own.setsFar' l2 0 (by omega) ((own_setsN l1 0 a).whole h1), (own_setsN l2 0 (Own.setsFar' l1 0 (by omega) b)).whole h2, below_setsN (by omega) l2 0 (below_setsN (Nat.le_refl _) l1 0 hb)⟩
theorem two_there (w1 : World) (Z1 Z2 : Array Value) (t1 t2 : TypeId) (l1 : List Value) : Own (((w1.alloc (.cells Z1 t1)).alloc (.cells Z2 t2)).setCells w1.heap.size 0 l1) (w1.heap.size + 1) Z2 t2 :=
  Own.setsFar' l1 0 (by omega) (Own.newAt (w1.alloc (.cells Z1 t1)) Z2 t2 (b := w1.heap.size + 1) (by simp))
theorem ret_cell2 {P : Program} {fn : Func} {R : Ending → World → Prop} {a : Act} {w : World} {p q : Tmp} {ty ty' : TypeId} {b b' : Nat} {l l' : List Value} {d d' : TypeDesc} (h : fn.results = #[.cell p ty, .cell q ty'])
    (hp : a.tmps.getD p undef = .pointer (some ⟨b, 0, none⟩)) (hq : a.tmps.getD q undef = .pointer (some ⟨b', 0, none⟩)) (hc : w.rangeAt b 0 l) (hu : P.underlying ty = some d) (hd : d.isRow = true) (hi : (P.info? ty).map (·.size) = some l.length)
    (hc' : w.rangeAt b' 0 l') (hu' : P.underlying ty' = some d') (hd' : d'.isRow = true) (hi' : (P.info? ty').map (·.size) = some l'.length)
    (hdf : a.defers = []) (hR : R (.returned (.tuple #[.agg l.toArray, .agg l'.toArray])) w) : bodyPost P fn R .ret a w :=
  bodyPost_ret (by
    have e := run_loadVar_mid (P := P) w b 0 ty l d hc hu hd hi
    have e' := run_loadVar_mid (P := P) w b' 0 ty' l' d' hc' hu' hd' hi'
    have hp2 : a.tmps[p]?.getD undef = .pointer (some ⟨b, 0, none⟩) := by rw [← hp]; simp
    have hq2 : a.tmps[q]?.getD undef = .pointer (some ⟨b', 0, none⟩) := by rw [← hq]; simp
    simp only [results, h]
    simp [Sem.run_bind, hp2, hq2, run_asAddr, e, e']) hdf hR
end Go.Proofs.YthbjgfennclidaaGreat
