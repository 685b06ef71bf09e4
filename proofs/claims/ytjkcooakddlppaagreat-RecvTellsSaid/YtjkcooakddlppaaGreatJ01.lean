/- Joined: Kit, Own, ItemQ, Ord. -/
import Derived.Test.YtjkcooakddlppaaGreatRows
import Derived.WalkKit
import Derived.WalkSpells
import Derived.WalkLawsBesides
import Derived.Lib.Hide
import Derived.StillTailTactics
import Derived.BigQuiet
import Derived.Lib.QuietBelow
import Derived.Deep.AppendLies
import Derived.OwnWalk
/- Small laws that the walks share: stores of floats and complex numbers, cells below a bound. -/
namespace Go.Proofs.YtjkcooakddlppaaGreat
set_option linter.unusedVariables false
set_option linter.unusedSimpArgs false
set_option maxRecDepth 100000
open Go.RowKit
@[go_sem] theorem run_store_float' (P : Program) (w : World) (a : Addr) (m : Mode) (k : FloatKind) (b : Nat) : (store a (.float k b) m).run P w = stored P w a (.float k b) m := run_store P w a _ m rfl
@[go_sem] theorem run_store_complex' (P : Program) (w : World) (a : Addr) (m : Mode) (k : FloatKind) (x y : Nat) : (store a (.complex k x y) m).run P w = stored P w a (.complex k x y) m := run_store P w a _ m rfl
theorem ret_bool {a b : Bool} (h : a = b) : Ending.returned (.bool a) = .returned (.bool b) := by rw [h]
theorem ret_int {k : IntKind} {a b : Int} (h : a = b) : Ending.returned (.int k a) = .returned (.int k b) := by rw [h]
theorem bcell {W w1 : World} (hb : Below W.heap.size W w1) : (∀ b o, b < W.heap.size → w1.cell? ⟨b, o, none⟩ = W.cell? ⟨b, o, none⟩) ∧ (∀ b o, b < W.heap.size → w1.frozen? ⟨b, o, none⟩ = W.frozen? ⟨b, o, none⟩) :=
  ⟨fun b o h => hb.cell (p := ⟨b, o, none⟩) h, fun b o h => hb.frozen (p := ⟨b, o, none⟩) h⟩
theorem toList_size (s : ByteArray) : s.toList.length = s.size := by
  rw [ByteArray.toList_eq]; simp
theorem below_new {w w' : World} {o : Obj} (h : Below (w.alloc o).heap.size (w.alloc o) w') : Below w.heap.size w w' :=
  ((Below.refl _ _).alloc (Nat.le_refl _) _).trans (h.mono (by simp))
theorem below_then {a b c : World} {B B' : Nat} (h1 : Below B a b) (h2 : Below B' b c) (h : B ≤ B') : Below B a c := h1.trans (h2.mono h)
theorem region_still_tail {P : Program} {id : Nat} {Q : Exit → Act → World → Prop} {a : Act} {w : World} {l : List Oper} (n : Nat) (hm : P.follows .mixedOrders = true) (hB : Region.lexTailB .any l.toArray n = true)
    (h : wpStill P l.toArray w.drew (fun a' => wpList P l.toArray Q (l.drop n) a' w.drew) (l.take n) a) : (Code.region id l.toArray true).wp P Q a w := wp_region_still_tail n hm hB h
theorem still_of {P : Program} {f : FuncId} {args : Array Value} {w : World} {v : Value} (h : Calls P f args w fun e w' => e = .returned v ∧ w = w') : Calls P f args w fun e w' => e = .returned v ∧ w' = w :=
  h.mono fun _ _ h => ⟨h.1, h.2.symm⟩
@[go_sem] theorem run_equalIn_complex' {P : Program} (w : World) (d : Nat) (t : TypeId) (k k' : FloatKind) (a b a' b' : Nat) (h : P.underlying t = some (.complex k')) : (Op.equalIn (d + 1) t (.complex k a b) (.complex k a' b')).run P w = .ok (k.format.order a a' == some .eq && k.format.order b b' == some .eq) w := by
  simp [Op.equalIn, run_underlying h, Op.floatEq]
structure Has (w : World) (b : Nat) (c : Array Value) : Prop where
  lt : b < w.heap.size
  cell : ∀ o, w.cell? ⟨b, o, none⟩ = c[o]?
theorem Has.new (w : World) (c : Array Value) (t : TypeId) : Has (w.alloc (.cells c t)) w.heap.size c :=
  ⟨by simp, fun o => by simp⟩
theorem Has.below {w w' : World} {b B : Nat} {c : Array Value} (h : Has w b c) (hb : Below B w w') (hB : b < B) : Has w' b c :=
  ⟨Nat.lt_of_lt_of_le h.lt hb.size, fun o => by rw [hb.cell (p := ⟨b, o, none⟩) hB]; exact h.cell o⟩
theorem Has.alloc {w : World} {b : Nat} {c : Array Value} (h : Has w b c) (o : Obj) : Has (w.alloc o) b c :=
  h.below ((Below.refl _ _).alloc (Nat.le_refl _) _) h.lt
theorem Has.drew {w : World} {b : Nat} {c : Array Value} (h : Has w b c) : Has w.drew b c := ⟨h.lt, fun o => h.cell o⟩
theorem Has.regrown {w : World} {b : Nat} {c : Array Value} (h : Has w b c) (d : Nat) (os : Array Obj) (o : Nat) : (Sort.grow (redrawn w d) os).cell? ⟨b, o, none⟩ = c[o]? :=
  (h.below (below_regrown w d os) h.lt).cell o
theorem regrown_below {w w' : World} (h : ∃ p : Regrown, w' = Sort.grow (redrawn w p.d) p.os) : Below w.heap.size w w' := by
  obtain ⟨p, rfl⟩ := h; exact below_regrown w p.d p.os
end Go.Proofs.YtjkcooakddlppaaGreat
/- Blocks that are known whole, and what stays of them. No walk. -/
namespace Go.Proofs.YtjkcooakddlppaaGreat
set_option linter.unusedVariables false
set_option linter.unusedSimpArgs false
set_option maxRecDepth 100000
open Go.RowKit
structure Own (w : World) (b : Nat) (c : Array Value) (t : TypeId) : Prop where
  blk : w.heap[b]? = some (.cells c t (0, 0))
theorem Own.lt {w : World} {b : Nat} {c : Array Value} {t : TypeId} (h : Own w b c t) : b < w.heap.size := by
  rcases Nat.lt_or_ge b w.heap.size with hlt | hge
  · exact hlt
  · have := h.blk; rw [Array.getElem?_eq_none hge] at this; cases this
theorem Own.cell {w : World} {b : Nat} {c : Array Value} {t : TypeId} (h : Own w b c t) (o : Nat) : w.cell? ⟨b, o, none⟩ = c[o]? := by
  simp [World.cell?, h.blk]
theorem Own.free {w : World} {b : Nat} {c : Array Value} {t : TypeId} (h : Own w b c t) (o : Nat) : w.frozen? ⟨b, o, none⟩ = false := by
  simp [World.frozen?, h.blk]
theorem Own.has {w : World} {b : Nat} {c : Array Value} {t : TypeId} (h : Own w b c t) : Has w b c := ⟨h.lt, h.cell⟩
theorem Own.new (w : World) (c : Array Value) (t : TypeId) : Own (w.alloc (.cells c t)) w.heap.size c t := ⟨heap_alloc_new w _⟩
theorem Own.newAt (w : World) (c : Array Value) (t : TypeId) {b : Nat} (hb : w.heap.size = b) : Own (w.alloc (.cells c t)) b c t := by subst hb; exact Own.new w c t
theorem Own.below {w w' : World} {b B : Nat} {c : Array Value} {t : TypeId} (h : Own w b c t) (hb : Below B w w') (hB : b < B) : Own w' b c t := ⟨by rw [hb.block b hB]; exact h.blk⟩
theorem Own.later {w w' : World} {b : Nat} {c : Array Value} {t : TypeId} (h : Own w b c t) (hb : Below w.heap.size w w') : Own w' b c t := h.below hb h.lt
theorem Own.alloc {w : World} {b : Nat} {c : Array Value} {t : TypeId} (h : Own w b c t) (o : Obj) : Own (w.alloc o) b c t := h.later ((Below.refl _ _).alloc (Nat.le_refl _) _)
theorem Own.drew {w : World} {b : Nat} {c : Array Value} {t : TypeId} (h : Own w b c t) : Own w.drew b c t := ⟨h.blk⟩
theorem Own.grown {w w' : World} {b : Nat} {c : Array Value} {t : TypeId} {row : Option Nat} (h : Own w b c t) (hg : w.grownBy w' row) (hne : some b ≠ row) : Own w' b c t := ⟨by rw [hg.block b h.lt hne]; exact h.blk⟩
theorem Own.setFar {w : World} {b : Nat} {c : Array Value} {t : TypeId} (h : Own w b c t) (p : Addr) (v : Value) (hne : b ≠ p.block) : Own (w.setCell p v) b c t := ⟨by rw [Below.heap_setCell _ _ _ _ hne]; exact h.blk⟩
theorem Own.set {w : World} {b : Nat} {c : Array Value} {t : TypeId} (h : Own w b c t) (o : Nat) (v : Value) : Own (w.setCell ⟨b, o, none⟩ v) b (c.setIfInBounds o v) t := ⟨by
  have h1 := h.blk
  simp only [World.setCell, Array.getElem?_modify, if_true]
  rw [h1]; simp⟩
theorem ownsRow_below {w w' : World} {base : Nat} {e : TypeId} {size : Nat} {v : Value} {n : Nat} {xs : List Value} (h : w.ownsRow base e size v n xs) (hb : Below w.heap.size w w') : w'.ownsRow base e size v n xs :=
  h.kept (row := none) ⟨hb.os, hb.tape, hb.output, hb.size, fun k hk _ => hb.block k hk⟩ (by cases v.ownBlock <;> simp)
theorem own_ne {w : World} {base b : Nat} {e : TypeId} {size : Nat} {v : Value} {n : Nat} {xs : List Value} (h : w.ownsRow base e size v n xs) (hb : b < base) : some b ≠ v.ownBlock := by
  intro e'
  have := h.lt b e'.symm
  omega
theorem row_slice {w : World} {base : Nat} {e : TypeId} {size : Nat} {v : Value} {n : Nat} {xs : List Value} (h : w.ownsRow base e size v n xs) :
    ∃ (oa : Option Addr) (cap g : Nat), v = .slice oa n cap ∧ n ≤ cap ∧ cap ≤ maxLen ∧ (0 < n → oa = some ⟨g, 0, none⟩ ∧ base ≤ g ∧ g < w.heap.size) := by
  rcases h.2 with ⟨rfl, rfl⟩ | ⟨g, cap, cur, rfl, hb, hg, h1, h2, _⟩
  · exact ⟨none, 0, 0, rfl, Nat.le_refl _, Nat.zero_le _, fun h => absurd h (Nat.lt_irrefl _)⟩
  · exact ⟨_, cap, g, rfl, h1, h2, fun _ => ⟨rfl, hb, (h.lt g rfl).2⟩⟩
end Go.Proofs.YtjkcooakddlppaaGreat
/- An item out of plain data: the walk. -/
namespace Go.Proofs.YtjkcooakddlppaaGreat
set_option linter.unusedVariables false
set_option linter.unusedSimpArgs false
set_option maxRecDepth 100000
open Go.RowKit
abbrev itemV (id : ByteArray) (r c st : Int) (kd : ByteArray) (n : Int) (x y : Nat) (d : Bool) : Value :=
  .agg #[.string id, .int .i64 r, .int .i64 c, .int .i64 st, .string kd, .int .i64 n, .complex .f64 x y, .bool d]
abbrev rowV (id : ByteArray) (r c st : Int) (kd : ByteArray) (n : Int) (x y : Nat) (d : Bool) : Value :=
  .agg #[.string id, .int .i64 r, .int .i64 c, .int .i64 st, .string kd, .int .i64 n, .float .f64 x, .float .f64 y, .bool d]
set_option maxHeartbeats 400000 in
theorem item_calls (id : ByteArray) (r c st : Int) (kd : ByteArray) (n : Int) (x y : Nat) (d : Bool) (w : World) :
    Calls Tryz.prog 9 #[rowV id r c st kd n x y d] w fun e w' => e = .returned (itemV id r c st kd n x y d) ∧ Below w.heap.size w w' := by
  go_enter Tryz.func9, Tryz.ntmps9
  go_wp2
  exact bodyPost_ret (v := itemV id r c st kd n x y d) (by simp [results, Tryz.results9, go_sem]) rfl ⟨rfl, ((Below.refl _ _).alloc (Nat.le_refl _) _).alloc (by simp) _⟩
end Go.Proofs.YtjkcooakddlppaaGreat
/- The order of texts: plain mathematics. No walk. -/
namespace Go.Proofs.YtjkcooakddlppaaGreat
set_option linter.unusedVariables false
set_option linter.unusedSimpArgs false
set_option maxRecDepth 100000
open Go.RowKit
theorem less_irr : ∀ (x : List UInt8), Op.bytesLess x x = false
  | [] => by simp [Op.bytesLess]
  | a :: x => by simp [Op.bytesLess, less_irr x]
theorem less_trans : ∀ {x y z : List UInt8}, Op.bytesLess x y = true → Op.bytesLess y z = true → Op.bytesLess x z = true
  | [], [], _, h, _ => by simp [Op.bytesLess] at h
  | _ :: _, [], _, h, _ => by simp [Op.bytesLess] at h
  | _, _ :: _, [], _, h => by simp [Op.bytesLess] at h
  | [], _ :: _, _ :: _, _, _ => by simp [Op.bytesLess]
  | a :: x, b :: y, c :: z, h1, h2 => by
    simp only [Op.bytesLess, Bool.or_eq_true, Bool.and_eq_true, decide_eq_true_eq, beq_iff_eq] at *
    rcases h1 with h1 | ⟨h1, h1'⟩ <;> rcases h2 with h2 | ⟨h2, h2'⟩
    · exact .inl (UInt8.lt_trans h1 h2)
    · subst h2; exact .inl h1
    · subst h1; exact .inl h2
    · subst h1 h2; exact .inr ⟨rfl, less_trans h1' h2'⟩
theorem less_tri : ∀ (x y : List UInt8), Op.bytesLess x y = true ∨ x = y ∨ Op.bytesLess y x = true
  | [], [] => .inr (.inl rfl)
  | [], _ :: _ => .inl (by simp [Op.bytesLess])
  | _ :: _, [] => .inr (.inr (by simp [Op.bytesLess]))
  | a :: x, b :: y => by
    simp only [Op.bytesLess, Bool.or_eq_true, Bool.and_eq_true, decide_eq_true_eq, beq_iff_eq, List.cons.injEq]
    have tri : a < b ∨ a = b ∨ b < a := by
      rcases Nat.lt_trichotomy a.toNat b.toNat with h | h | h
      · exact .inl (UInt8.lt_iff_toNat_lt.2 h)
      · exact .inr (.inl (UInt8.toNat_inj.1 h))
      · exact .inr (.inr (UInt8.lt_iff_toNat_lt.2 h))
    rcases tri with h | h | h
    · exact .inl (.inl h)
    · subst h
      rcases less_tri x y with h | h | h
      · exact .inl (.inr ⟨rfl, h⟩)
      · exact .inr (.inl ⟨rfl, h⟩)
      · exact .inr (.inr (.inr ⟨rfl, h⟩))
    · exact .inr (.inr (.inl h))
theorem tl_inj {a b : ByteArray} (h : a.toList = b.toList) : a = b := by
  rw [ByteArray.toList_eq, ByteArray.toList_eq] at h
  cases a; cases b; simp at h; subst h; rfl
def lsB (a b : ByteArray) : Bool := Op.bytesLess a.toList b.toList
def gtB (a b : ByteArray) : Bool := !(Op.bytesLess a.toList b.toList || a.toList == b.toList)
def leB (a b : ByteArray) : Bool := Op.bytesLess a.toList b.toList || a.toList == b.toList
theorem ls_irr (a : ByteArray) : lsB a a = false := less_irr _
theorem ls_trans {a b c : ByteArray} (h1 : lsB a b = true) (h2 : lsB b c = true) : lsB a c = true := less_trans h1 h2
theorem ls_tri (a b : ByteArray) : lsB a b = true ∨ a = b ∨ lsB b a = true := by
  rcases less_tri a.toList b.toList with h | h | h
  · exact .inl h
  · exact .inr (.inl (tl_inj h))
  · exact .inr (.inr h)
theorem ls_asym {a b : ByteArray} (h : lsB a b = true) : lsB b a = false := by
  cases e : lsB b a with
  | false => rfl
  | true => have := ls_trans h e; rw [ls_irr] at this; cases this
theorem ls_ne {a b : ByteArray} (h : lsB a b = true) : a ≠ b := by
  intro e; subst e; rw [ls_irr] at h; cases h
theorem tl_eq {a b : ByteArray} : (a.toList == b.toList) = true ↔ a = b := by
  rw [beq_iff_eq]; exact ⟨tl_inj, fun e => by rw [e]⟩
theorem tl_ne {a b : ByteArray} : (a.toList == b.toList) = false ↔ a ≠ b := by
  rw [beq_eq_false_iff_ne]; exact ⟨fun h e => h (by rw [e]), fun h e => h (tl_inj e)⟩
theorem le_iff {a b : ByteArray} : leB a b = true ↔ lsB a b = true ∨ a = b := by
  unfold leB lsB
  rw [Bool.or_eq_true, tl_eq]
theorem le_not {a b : ByteArray} (h : leB a b = false) : lsB b a = true := by
  rcases ls_tri a b with h1 | h1 | h1
  · have : leB a b = true := le_iff.2 (.inl h1)
    rw [this] at h; cases h
  · have : leB a b = true := le_iff.2 (.inr h1)
    rw [this] at h; cases h
  · exact h1
theorem gt_eq (a b : ByteArray) : gtB a b = lsB b a := by
  have : gtB a b = !leB a b := rfl
  rw [this]
  cases h : leB a b with
  | false => rw [le_not h]; rfl
  | true =>
    rcases le_iff.1 h with h1 | h1
    · rw [ls_asym h1]; rfl
    · subst h1; rw [ls_irr]; rfl
/-! ### Lists of texts that rise -/
def Rise (l : List ByteArray) : Prop := l.Pairwise fun a b => lsB a b = true
theorem rise_cons {a : ByteArray} {l : List ByteArray} : Rise (a :: l) ↔ (∀ x ∈ l, lsB a x = true) ∧ Rise l := List.pairwise_cons
theorem rise_ext : ∀ {l m : List ByteArray}, Rise l → Rise m → (∀ x, x ∈ l ↔ x ∈ m) → l = m
  | [], [], _, _, _ => rfl
  | [], b :: m, _, _, h => by have := (h b).2 (by simp); simp at this
  | a :: l, [], _, _, h => by have := (h a).1 (by simp); simp at this
  | a :: l, b :: m, h1, h2, h => by
    rw [rise_cons] at h1 h2
    have e : a = b := by
      have ha := (h a).1 (by simp)
      have hb := (h b).2 (by simp)
      rcases List.mem_cons.1 ha with e | ha
      · exact e
      rcases List.mem_cons.1 hb with e | hb
      · exact e.symm
      have := ls_trans (h1.1 b hb) (h2.1 a ha)
      rw [ls_irr] at this; cases this
    subst e
    congr 1
    refine rise_ext h1.2 h2.2 fun x => ⟨fun hx => ?_, fun hx => ?_⟩
    · rcases List.mem_cons.1 ((h x).1 (by simp [hx])) with e | h'
      · subst e; have := h1.1 x hx; rw [ls_irr] at this; cases this
      · exact h'
    · rcases List.mem_cons.1 ((h x).2 (by simp [hx])) with e | h'
      · subst e; have := h2.1 x hx; rw [ls_irr] at this; cases this
      · exact h'
theorem rise_filter {p : ByteArray → Bool} {l : List ByteArray} (h : Rise l) : Rise (l.filter p) := List.Pairwise.filter p h
end Go.Proofs.YtjkcooakddlppaaGreat
