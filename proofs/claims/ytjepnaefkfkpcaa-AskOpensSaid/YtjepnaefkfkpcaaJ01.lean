/- Joined: Kit, Own, ItemQ, Ord, RowI. -/
import Derived.Test.YtjepnaefkfkpcaaRows
import Derived.WalkKit
import Derived.WalkSpells
import Derived.WalkLawsBesides
import Derived.Lib.Hide
import Derived.StillTailTactics
import Derived.BigQuiet
import Derived.Lib.QuietBelow
import Derived.Deep.AppendLies
import Derived.OwnWalk
/- Small laws that the walks share: stores of floats and complex numbers, cells below a bound. -/
namespace Go.Proofs.Ytjepnaefkfkpcaa
set_option linter.unusedVariables false
set_option linter.unusedSimpArgs false
set_option maxRecDepth 100000
open Go.RowKit
@[go_sem] theorem run_store_float' (P : Program) (w : World) (a : Addr) (m : Mode) (k : FloatKind) (b : Nat) : (store a (.float k b) m).run P w = stored P w a (.float k b) m := run_store P w a _ m rfl
@[go_sem] theorem run_store_complex' (P : Program) (w : World) (a : Addr) (m : Mode) (k : FloatKind) (x y : Nat) : (store a (.complex k x y) m).run P w = stored P w a (.complex k x y) m := run_store P w a _ m rfl
theorem ret_bool {a b : Bool} (h : a = b) : Ending.returned (.bool a) = .returned (.bool b) := by rw [h]
theorem ret_int {k : IntKind} {a b : Int} (h : a = b) : Ending.returned (.int k a) = .returned (.int k b) := by rw [h]
theorem bcell {W w1 : World} (hb : Below W.heap.size W w1) : (∀ b o, b < W.heap.size → w1.cell? ⟨b, o, none⟩ = W.cell? ⟨b, o, none⟩) ∧ (∀ b o, b < W.heap.size → w1.frozen? ⟨b, o, none⟩ = W.frozen? ⟨b, o, none⟩) :=
  ⟨fun b o h => hb.cell (p := ⟨b, o, none⟩) h, fun b o h => hb.frozen (p := ⟨b, o, none⟩) h⟩
theorem below_new {w w' : World} {o : Obj} (h : Below (w.alloc o).heap.size (w.alloc o) w') : Below w.heap.size w w' :=
  ((Below.refl _ _).alloc (Nat.le_refl _) _).trans (h.mono (by simp))
theorem region_still_tail {P : Program} {id : Nat} {Q : Exit → Act → World → Prop} {a : Act} {w : World} {l : List Oper} (n : Nat) (hm : P.follows .mixedOrders = true) (hB : Region.lexTailB .any l.toArray n = true)
    (h : wpStill P l.toArray w.drew (fun a' => wpList P l.toArray Q (l.drop n) a' w.drew) (l.take n) a) : (Code.region id l.toArray true).wp P Q a w := wp_region_still_tail n hm hB h
@[go_sem] theorem run_equalIn_complex' {P : Program} (w : World) (d : Nat) (t : TypeId) (k k' : FloatKind) (a b a' b' : Nat) (h : P.underlying t = some (.complex k')) : (Op.equalIn (d + 1) t (.complex k a b) (.complex k a' b')).run P w = .ok (k.format.order a a' == some .eq && k.format.order b b' == some .eq) w := by
  simp [Op.equalIn, run_underlying h, Op.floatEq]
structure Has (w : World) (b : Nat) (c : Array Value) : Prop where
  lt : b < w.heap.size
  cell : ∀ o, w.cell? ⟨b, o, none⟩ = c[o]?
theorem Has.new (w : World) (c : Array Value) (t : TypeId) : Has (w.alloc (.cells c t)) w.heap.size c :=
  ⟨by simp, fun o => by simp⟩
theorem Has.below {w w' : World} {b B : Nat} {c : Array Value} (h : Has w b c) (hb : Below B w w') (hB : b < B) : Has w' b c :=
  ⟨Nat.lt_of_lt_of_le h.lt hb.size, fun o => by rw [hb.cell (p := ⟨b, o, none⟩) hB]; exact h.cell o⟩
theorem Has.alloc {w : World} {b : Nat} {c : Array Value} (h : Has w b c) (o : Obj) : Has (w.alloc o) b c :=
  h.below ((Below.refl _ _).alloc (Nat.le_refl _) _) h.lt
theorem Has.drew {w : World} {b : Nat} {c : Array Value} (h : Has w b c) : Has w.drew b c := ⟨h.lt, fun o => h.cell o⟩
theorem Has.regrown {w : World} {b : Nat} {c : Array Value} (h : Has w b c) (d : Nat) (os : Array Obj) (o : Nat) : (Sort.grow (redrawn w d) os).cell? ⟨b, o, none⟩ = c[o]? :=
  (h.below (below_regrown w d os) h.lt).cell o
theorem regrown_below {w w' : World} (h : ∃ p : Regrown, w' = Sort.grow (redrawn w p.d) p.os) : Below w.heap.size w w' := by
  obtain ⟨p, rfl⟩ := h; exact below_regrown w p.d p.os
end Go.Proofs.Ytjepnaefkfkpcaa
/- Blocks that are known whole, and what stays of them. No walk. -/
namespace Go.Proofs.Ytjepnaefkfkpcaa
set_option linter.unusedVariables false
set_option linter.unusedSimpArgs false
set_option maxRecDepth 100000
open Go.RowKit
structure Own (w : World) (b : Nat) (c : Array Value) (t : TypeId) : Prop where
  blk : w.heap[b]? = some (.cells c t (0, 0))
theorem Own.lt {w : World} {b : Nat} {c : Array Value} {t : TypeId} (h : Own w b c t) : b < w.heap.size := by
  rcases Nat.lt_or_ge b w.heap.size with hlt | hge
  · exact hlt
  · have := h.blk; rw [Array.getElem?_eq_none hge] at this; cases this
theorem Own.cell {w : World} {b : Nat} {c : Array Value} {t : TypeId} (h : Own w b c t) (o : Nat) : w.cell? ⟨b, o, none⟩ = c[o]? := by
  simp [World.cell?, h.blk]
theorem Own.free {w : World} {b : Nat} {c : Array Value} {t : TypeId} (h : Own w b c t) (o : Nat) : w.frozen? ⟨b, o, none⟩ = false := by
  simp [World.frozen?, h.blk]
theorem Own.has {w : World} {b : Nat} {c : Array Value} {t : TypeId} (h : Own w b c t) : Has w b c := ⟨h.lt, h.cell⟩
theorem Own.new (w : World) (c : Array Value) (t : TypeId) : Own (w.alloc (.cells c t)) w.heap.size c t := ⟨heap_alloc_new w _⟩
theorem Own.newAt (w : World) (c : Array Value) (t : TypeId) {b : Nat} (hb : w.heap.size = b) : Own (w.alloc (.cells c t)) b c t := by subst hb; exact Own.new w c t
theorem Own.below {w w' : World} {b B : Nat} {c : Array Value} {t : TypeId} (h : Own w b c t) (hb : Below B w w') (hB : b < B) : Own w' b c t := ⟨by rw [hb.block b hB]; exact h.blk⟩
theorem Own.later {w w' : World} {b : Nat} {c : Array Value} {t : TypeId} (h : Own w b c t) (hb : Below w.heap.size w w') : Own w' b c t := h.below hb h.lt
theorem Own.alloc {w : World} {b : Nat} {c : Array Value} {t : TypeId} (h : Own w b c t) (o : Obj) : Own (w.alloc o) b c t := h.later ((Below.refl _ _).alloc (Nat.le_refl _) _)
theorem Own.drew {w : World} {b : Nat} {c : Array Value} {t : TypeId} (h : Own w b c t) : Own w.drew b c t := ⟨h.blk⟩
theorem Own.grown {w w' : World} {b : Nat} {c : Array Value} {t : TypeId} {row : Option Nat} (h : Own w b c t) (hg : w.grownBy w' row) (hne : some b ≠ row) : Own w' b c t := ⟨by rw [hg.block b h.lt hne]; exact h.blk⟩
theorem Own.setFar {w : World} {b : Nat} {c : Array Value} {t : TypeId} (h : Own w b c t) (p : Addr) (v : Value) (hne : b ≠ p.block) : Own (w.setCell p v) b c t := ⟨by rw [Below.heap_setCell _ _ _ _ hne]; exact h.blk⟩
theorem Own.set {w : World} {b : Nat} {c : Array Value} {t : TypeId} (h : Own w b c t) (o : Nat) (v : Value) : Own (w.setCell ⟨b, o, none⟩ v) b (c.setIfInBounds o v) t := ⟨by
  have h1 := h.blk
  simp only [World.setCell, Array.getElem?_modify, if_true]
  rw [h1]; simp⟩
theorem ownsRow_below {w w' : World} {base : Nat} {e : TypeId} {size : Nat} {v : Value} {n : Nat} {xs : List Value} (h : w.ownsRow base e size v n xs) (hb : Below w.heap.size w w') : w'.ownsRow base e size v n xs :=
  h.kept (row := none) ⟨hb.os, hb.tape, hb.output, hb.size, fun k hk _ => hb.block k hk⟩ (by cases v.ownBlock <;> simp)
theorem own_ne {w : World} {base b : Nat} {e : TypeId} {size : Nat} {v : Value} {n : Nat} {xs : List Value} (h : w.ownsRow base e size v n xs) (hb : b < base) : some b ≠ v.ownBlock := by
  intro e'
  have := h.lt b e'.symm
  omega
theorem row_slice {w : World} {base : Nat} {e : TypeId} {size : Nat} {v : Value} {n : Nat} {xs : List Value} (h : w.ownsRow base e size v n xs) :
    ∃ (oa : Option Addr) (cap g : Nat), v = .slice oa n cap ∧ n ≤ cap ∧ cap ≤ maxLen ∧ (0 < n → oa = some ⟨g, 0, none⟩ ∧ base ≤ g ∧ g < w.heap.size) := by
  rcases h.2 with ⟨rfl, rfl⟩ | ⟨g, cap, cur, rfl, hb, hg, h1, h2, _⟩
  · exact ⟨none, 0, 0, rfl, Nat.le_refl _, Nat.zero_le _, fun h => absurd h (Nat.lt_irrefl _)⟩
  · exact ⟨_, cap, g, rfl, h1, h2, fun _ => ⟨rfl, hb, (h.lt g rfl).2⟩⟩
end Go.Proofs.Ytjepnaefkfkpcaa
/- An item out of plain data: the walk. -/
namespace Go.Proofs.Ytjepnaefkfkpcaa
set_option linter.unusedVariables false
set_option linter.unusedSimpArgs false
set_option maxRecDepth 100000
open Go.RowKit
abbrev itemV (id : ByteArray) (r c st : Int) (kd : ByteArray) (n : Int) (x y : Nat) (d : Bool) : Value :=
  .agg #[.string id, .int .i64 r, .int .i64 c, .int .i64 st, .string kd, .int .i64 n, .complex .f64 x y, .bool d]
abbrev rowV (id : ByteArray) (r c st : Int) (kd : ByteArray) (n : Int) (x y : Nat) (d : Bool) : Value :=
  .agg #[.string id, .int .i64 r, .int .i64 c, .int .i64 st, .string kd, .int .i64 n, .float .f64 x, .float .f64 y, .bool d]
set_option maxHeartbeats 400000 in
theorem item_calls (id : ByteArray) (r c st : Int) (kd : ByteArray) (n : Int) (x y : Nat) (d : Bool) (w : World) :
    Calls Try.prog 31 #[rowV id r c st kd n x y d] w fun e w' => e = .returned (itemV id r c st kd n x y d) ∧ Below w.heap.size w w' := by
  go_enter Try.func31, Try.ntmps31
  go_wp2
  exact bodyPost_ret (v := itemV id r c st kd n x y d) (by simp [results, Try.results31, go_sem]) rfl ⟨rfl, ((Below.refl _ _).alloc (Nat.le_refl _) _).alloc (by simp) _⟩
end Go.Proofs.Ytjepnaefkfkpcaa
/- The order of texts: plain mathematics. No walk. -/
namespace Go.Proofs.Ytjepnaefkfkpcaa
set_option linter.unusedVariables false
set_option linter.unusedSimpArgs false
set_option maxRecDepth 100000
open Go.RowKit
theorem less_irr : ∀ (x : List UInt8), Op.bytesLess x x = false
  | [] => by simp [Op.bytesLess]
  | a :: x => by simp [Op.bytesLess, less_irr x]
theorem less_trans : ∀ {x y z : List UInt8}, Op.bytesLess x y = true → Op.bytesLess y z = true → Op.bytesLess x z = true
  | [], [], _, h, _ => by simp [Op.bytesLess] at h
  | _ :: _, [], _, h, _ => by simp [Op.bytesLess] at h
  | _, _ :: _, [], _, h => by simp [Op.bytesLess] at h
  | [], _ :: _, _ :: _, _, _ => by simp [Op.bytesLess]
  | a :: x, b :: y, c :: z, h1, h2 => by
    simp only [Op.bytesLess, Bool.or_eq_true, Bool.and_eq_true, decide_eq_true_eq, beq_iff_eq] at *
    rcases h1 with h1 | ⟨h1, h1'⟩ <;> rcases h2 with h2 | ⟨h2, h2'⟩
    · exact .inl (UInt8.lt_trans h1 h2)
    · subst h2; exact .inl h1
    · subst h1; exact .inl h2
    · subst h1 h2; exact .inr ⟨rfl, less_trans h1' h2'⟩
theorem less_tri : ∀ (x y : List UInt8), Op.bytesLess x y = true ∨ x = y ∨ Op.bytesLess y x = true
  | [], [] => .inr (.inl rfl)
  | [], _ :: _ => .inl (by simp [Op.bytesLess])
  | _ :: _, [] => .inr (.inr (by simp [Op.bytesLess]))
  | a :: x, b :: y => by
    simp only [Op.bytesLess, Bool.or_eq_true, Bool.and_eq_true, decide_eq_true_eq, beq_iff_eq, List.cons.injEq]
    have tri : a < b ∨ a = b ∨ b < a := by
      rcases Nat.lt_trichotomy a.toNat b.toNat with h | h | h
      · exact .inl (UInt8.lt_iff_toNat_lt.2 h)
      · exact .inr (.inl (UInt8.toNat_inj.1 h))
      · exact .inr (.inr (UInt8.lt_iff_toNat_lt.2 h))
    rcases tri with h | h | h
    · exact .inl (.inl h)
    · subst h
      rcases less_tri x y with h | h | h
      · exact .inl (.inr ⟨rfl, h⟩)
      · exact .inr (.inl ⟨rfl, h⟩)
      · exact .inr (.inr (.inr ⟨rfl, h⟩))
    · exact .inr (.inr (.inl h))
theorem tl_inj {a b : ByteArray} (h : a.toList = b.toList) : a = b := by
  rw [ByteArray.toList_eq, ByteArray.toList_eq] at h
  cases a; cases b; simp at h; subst h; rfl
def lsB (a b : ByteArray) : Bool := Op.bytesLess a.toList b.toList
def gtB (a b : ByteArray) : Bool := !(Op.bytesLess a.toList b.toList || a.toList == b.toList)
def leB (a b : ByteArray) : Bool := Op.bytesLess a.toList b.toList || a.toList == b.toList
theorem ls_irr (a : ByteArray) : lsB a a = false := less_irr _
theorem ls_trans {a b c : ByteArray} (h1 : lsB a b = true) (h2 : lsB b c = true) : lsB a c = true := less_trans h1 h2
theorem ls_tri (a b : ByteArray) : lsB a b = true ∨ a = b ∨ lsB b a = true := by
  rcases less_tri a.toList b.toList with h | h | h
  · exact .inl h
  · exact .inr (.inl (tl_inj h))
  · exact .inr (.inr h)
theorem ls_ne {a b : ByteArray} (h : lsB a b = true) : a ≠ b := by
  intro e; subst e; rw [ls_irr] at h; cases h
theorem tl_eq {a b : ByteArray} : (a.toList == b.toList) = true ↔ a = b := by
  rw [beq_iff_eq]; exact ⟨tl_inj, fun e => by rw [e]⟩
theorem tl_ne {a b : ByteArray} : (a.toList == b.toList) = false ↔ a ≠ b := by
  rw [beq_eq_false_iff_ne]; exact ⟨fun h e => h (by rw [e]), fun h e => h (tl_inj e)⟩
theorem le_iff {a b : ByteArray} : leB a b = true ↔ lsB a b = true ∨ a = b := by
  unfold leB lsB
  rw [Bool.or_eq_true, tl_eq]
theorem le_not {a b : ByteArray} (h : leB a b = false) : lsB b a = true := by
  rcases ls_tri a b with h1 | h1 | h1
  · have : leB a b = true := le_iff.2 (.inl h1)
    rw [this] at h; cases h
  · have : leB a b = true := le_iff.2 (.inr h1)
    rw [this] at h; cases h
  · exact h1
/-! ### Lists of texts that rise -/
def Rise (l : List ByteArray) : Prop := l.Pairwise fun a b => lsB a b = true
theorem rise_cons {a : ByteArray} {l : List ByteArray} : Rise (a :: l) ↔ (∀ x ∈ l, lsB a x = true) ∧ Rise l := List.pairwise_cons
theorem rise_filter {p : ByteArray → Bool} {l : List ByteArray} (h : Rise l) : Rise (l.filter p) := List.Pairwise.filter p h
end Go.Proofs.Ytjepnaefkfkpcaa
/- Rows of items, and of plain rows: how they lie. No walk. -/
namespace Go.Proofs.Ytjepnaefkfkpcaa
set_option linter.unusedVariables false
set_option linter.unusedSimpArgs false
set_option maxRecDepth 100000
open Go.RowKit
structure Itm where
  id : ByteArray
  r : Int
  c : Int
  st : Int
  kd : ByteArray
  num : Int
  x : Nat
  y : Nat
  d : Bool
def Itm.zero : Itm := ⟨⟨#[]⟩, 0, 0, 0, ⟨#[]⟩, 0, 0, 0, false⟩
abbrev ic (i : Itm) : List Value := [.string i.id, .int .i64 i.r, .int .i64 i.c, .int .i64 i.st, .string i.kd, .int .i64 i.num, .complex .f64 i.x i.y, .bool i.d]
abbrev rc (i : Itm) : List Value := [.string i.id, .int .i64 i.r, .int .i64 i.c, .int .i64 i.st, .string i.kd, .int .i64 i.num, .float .f64 i.x, .float .f64 i.y, .bool i.d]
abbrev iV (i : Itm) : Value := .agg #[.string i.id, .int .i64 i.r, .int .i64 i.c, .int .i64 i.st, .string i.kd, .int .i64 i.num, .complex .f64 i.x i.y, .bool i.d]
theorem some_posI {α : Type} {l : List α} {k : Nat} {a : α} (h : l[k]? = some a) : k < l.length := (List.getElem?_eq_some_iff.1 h).1
structure RowAt (sz : Nat) (f : Itm → List Value) (w : World) (l : List Itm) (oa : Option Addr) (cap b o : Nat) : Prop where
  len : l.length ≤ cap
  max : cap ≤ maxLen
  at0 : 0 < l.length → oa = some ⟨b, o, none⟩ ∧ b < w.heap.size
  cell : ∀ k i, l[k]? = some i → ∀ j u, (f i)[j]? = some u → w.cell? ⟨b, o + k * sz + j, none⟩ = some u
  ok : ∀ i ∈ l, i.id.size ≤ maxLen ∧ i.kd.size ≤ maxLen
def Row (sz : Nat) (f : Itm → List Value) (w : World) (l : List Itm) (v : Value) : Prop := ∃ oa cap b o, v = .slice oa l.length cap ∧ RowAt sz f w l oa cap b o
theorem RowAt.later {sz : Nat} {f : Itm → List Value} {w w' : World} {l : List Itm} {oa : Option Addr} {cap b o : Nat} (h : RowAt sz f w l oa cap b o) (hb : Below w.heap.size w w') : RowAt sz f w' l oa cap b o := by
  refine ⟨h.len, h.max, fun h0 => ⟨(h.at0 h0).1, Nat.lt_of_lt_of_le (h.at0 h0).2 hb.size⟩, fun k i hk j u hu => ?_, h.ok⟩
  have hlt : b < w.heap.size := (h.at0 (by have := some_posI hk; omega)).2
  exact (hb.cell (p := ⟨b, o + k * sz + j, none⟩) hlt).trans (h.cell k i hk j u hu)
theorem Row.later {sz : Nat} {f : Itm → List Value} {w w' : World} {l : List Itm} {v : Value} (h : Row sz f w l v) (hb : Below w.heap.size w w') : Row sz f w' l v := by
  obtain ⟨oa, cap, b, o, e, h⟩ := h
  exact ⟨oa, cap, b, o, e, h.later hb⟩
theorem ic_cells {w : World} {i : Itm} {b o : Nat} (h : ∀ j u, (ic i)[j]? = some u → w.cell? ⟨b, o + j, none⟩ = some u) :
    w.cell? ⟨b, o, none⟩ = some (.string i.id) ∧ w.cell? ⟨b, o + 1, none⟩ = some (.int .i64 i.r) ∧ w.cell? ⟨b, o + 2, none⟩ = some (.int .i64 i.c) ∧ w.cell? ⟨b, o + 3, none⟩ = some (.int .i64 i.st) ∧ w.cell? ⟨b, o + 4, none⟩ = some (.string i.kd) ∧ w.cell? ⟨b, o + 5, none⟩ = some (.int .i64 i.num) ∧ w.cell? ⟨b, o + 6, none⟩ = some (.complex .f64 i.x i.y) ∧ w.cell? ⟨b, o + 7, none⟩ = some (.bool i.d) :=
  ⟨h 0 _ rfl, h 1 _ rfl, h 2 _ rfl, h 3 _ rfl, h 4 _ rfl, h 5 _ rfl, h 6 _ rfl, h 7 _ rfl⟩
theorem rc_cells {w : World} {i : Itm} {b o : Nat} (h : ∀ j u, (rc i)[j]? = some u → w.cell? ⟨b, o + j, none⟩ = some u) :
    w.cell? ⟨b, o, none⟩ = some (.string i.id) ∧ w.cell? ⟨b, o + 1, none⟩ = some (.int .i64 i.r) ∧ w.cell? ⟨b, o + 2, none⟩ = some (.int .i64 i.c) ∧ w.cell? ⟨b, o + 3, none⟩ = some (.int .i64 i.st) ∧ w.cell? ⟨b, o + 4, none⟩ = some (.string i.kd) ∧ w.cell? ⟨b, o + 5, none⟩ = some (.int .i64 i.num) ∧ w.cell? ⟨b, o + 6, none⟩ = some (.float .f64 i.x) ∧ w.cell? ⟨b, o + 7, none⟩ = some (.float .f64 i.y) ∧ w.cell? ⟨b, o + 8, none⟩ = some (.bool i.d) :=
  ⟨h 0 _ rfl, h 1 _ rfl, h 2 _ rfl, h 3 _ rfl, h 4 _ rfl, h 5 _ rfl, h 6 _ rfl, h 7 _ rfl, h 8 _ rfl⟩
/-! ### A row that the call owns -/
def cellsI (l : List Itm) : List Value := l.flatMap ic
theorem cellsI_append (l m : List Itm) : cellsI (l ++ m) = cellsI l ++ cellsI m := by simp [cellsI]
theorem cellsI_one (i : Itm) : cellsI [i] = ic i := by simp [cellsI]
theorem cellsI_get (l : List Itm) (k : Nat) (i : Itm) (hk : l[k]? = some i) (j : Nat) (hj : j < 8) : (cellsI l)[k * 8 + j]? = (ic i)[j]? := by
  induction l generalizing k with
  | nil => simp at hk
  | cons a l ih =>
    have e : cellsI (a :: l) = ic a ++ cellsI l := rfl
    rw [e]
    cases k with
    | zero =>
      simp at hk; subst hk
      rw [Nat.zero_mul, Nat.zero_add, List.getElem?_append_left (by simpa using hj)]
    | succ k =>
      simp at hk
      rw [List.getElem?_append_right (by simp; omega), show (k + 1) * 8 + j - (ic a).length = k * 8 + j by simp; omega]
      exact ih k hk
def OwnI (w : World) (base : Nat) (l : List Itm) (v : Value) : Prop := w.ownsRow base 66 8 v l.length (cellsI l)
theorem OwnI.nil (w : World) (base : Nat) : OwnI w base [] (.slice none 0 0) := World.ownsRow_nil _ _ _ _
theorem OwnI.later {w w' : World} {base : Nat} {l : List Itm} {v : Value} (h : OwnI w base l v) (hb : Below w.heap.size w w') : OwnI w' base l v := ownsRow_below h hb
theorem OwnI.alloc {w : World} {base : Nat} {l : List Itm} {v : Value} (h : OwnI w base l v) (o : Obj) : OwnI (w.alloc o) base l v := h.later ((Below.refl _ _).alloc (Nat.le_refl _) _)
theorem OwnI.mono {w : World} {base base' : Nat} {l : List Itm} {v : Value} (h : OwnI w base l v) (hb : base' ≤ base) : OwnI w base' l v := by
  obtain ⟨h1, h2⟩ := h
  refine ⟨h1, ?_⟩
  rcases h2 with h2 | ⟨g, cap, cur, hv, hg, r⟩
  · exact .inl h2
  · exact .inr ⟨g, cap, cur, hv, Nat.le_trans hb hg, r⟩
theorem OwnI.row {w : World} {base : Nat} {l : List Itm} {v : Value} (h : OwnI w base l v) (hok : ∀ i ∈ l, i.id.size ≤ maxLen ∧ i.kd.size ≤ maxLen) : Row 8 ic w l v := by
  obtain ⟨oa, cap, g, e, h1, h2, hg⟩ := row_slice h
  subst e
  refine ⟨oa, cap, g, 0, rfl, h1, h2, fun h0 => ⟨(hg h0).1, (hg h0).2.2⟩, fun k i hk j u hu => ?_, hok⟩
  have hlt := some_posI hk
  obtain ⟨rfl, _⟩ := hg (by omega)
  have hj : j < 8 := (List.getElem?_eq_some_iff.1 hu).1
  unfold OwnI at h
  rw [Nat.zero_add, h.cellAt (k * 8 + j) (by omega), cellsI_get l k i hk j hj]
  exact hu
theorem itI_one (i : Itm) : ∀ u ∈ ic i, u.oneCell' = true := by
  intro u hu
  simp only [ic, List.mem_cons, List.not_mem_nil, or_false] at hu
  rcases hu with rfl | rfl | rfl | rfl | rfl | rfl | rfl | rfl <;> rfl
theorem newsI {w : World} {i : Itm} {t : TypeId} : ∀ j u, (ic i)[j]? = some u → (w.alloc (.cells #[.string i.id, .int .i64 i.r, .int .i64 i.c, .int .i64 i.st, .string i.kd, .int .i64 i.num, .complex .f64 i.x i.y, .bool i.d] t)).cell? ((⟨w.heap.size, 0, none⟩ : Addr).add j) = some u :=
  World.news_of_block (cs := #[.string i.id, .int .i64 i.r, .int .i64 i.c, .int .i64 i.st, .string i.kd, .int .i64 i.num, .complex .f64 i.x i.y, .bool i.d]) (t := t) (fr := (0, 0)) (heap_alloc_new w _)
theorem OwnI.push {w : World} {base n g cap : Nat} {l : List Itm} {i : Itm} (h : w.ownsRow base 66 8 (.slice (some ⟨g, 0, none⟩) n cap) n (cellsI l ++ ic i)) (hn : n = l.length + 1) : OwnI w base (l ++ [i]) (.slice (some ⟨g, 0, none⟩) n cap) := by
  unfold OwnI
  rw [cellsI_append, cellsI_one, List.length_append]
  subst hn
  exact h
theorem takeI {l : List Itm} {k : Nat} {i : Itm} (h : l[k]? = some i) : l.take (k + 1) = l.take k ++ [i] := by
  obtain ⟨hk, e⟩ := List.getElem?_eq_some_iff.1 h
  rw [List.take_succ_eq_append_getElem hk, e]
theorem OwnI.len {w : World} {base : Nat} {l : List Itm} {v : Value} (h : OwnI w base l v) : ∃ oa cap, v = .slice oa l.length cap := by
  obtain ⟨oa, cap, g, e, _⟩ := row_slice h
  exact ⟨oa, cap, e⟩
theorem below_push {w0 w w' : World} {B base : Nat} {l : List Itm} {v : Value} (h : OwnI w base l v) (hb : Below B w0 w) (hB : B ≤ base) (hg : w.grownBy w' v.ownBlock) (hsz : B ≤ w.heap.size) : Below B w0 w' :=
  hb.grown hg hsz fun k hk => by have := (World.ownsRow.lt h k hk).1; omega
theorem info_item : (Try.prog.info? 66).map (fun i => (i.zero, i.size, i.bytes)) = some (some (.agg #[.string ⟨#[]⟩, .int .i64 0, .int .i64 0, .int .i64 0, .string ⟨#[]⟩, .int .i64 0, .complex .f64 0 0, .bool false]), 8, 88) := by kernel_rfl
end Go.Proofs.Ytjepnaefkfkpcaa
