/- A disk: what it is, how it lies in a world, what is done with it. No walk. -/
import Derived.Test.YteofkbidahefeaaByA
import Derived.Test.YteofkbidahefeaaRegN
import Derived.Maps.AppendAt
namespace Go.Proofs.Yteofkbidahefeaa
set_option linter.unusedVariables false
set_option linter.unusedSimpArgs false
set_option maxRecDepth 100000
open Go.RowKit

structure Dk where
  l : List Nat
  fu : Option Nat
  dn : Bool
def newDk : Dk := ⟨[], none, false⟩
def Dk.fz (d : Dk) : Int := match d.fu with | none => 0 | some n => n
def Dk.fr (d : Dk) : Int := match d.fu with | none => -1 | some n => n
def dkA (d : Dk) (v : Value) : Array Value := #[v, .int .i64 d.fz, .bool d.fu.isSome, .bool d.dn]
def dmA (d : Dk) (v : Value) : Array Value := #[v, .int .i64 d.fr, .bool d.dn]
def addD (d : Dk) (m : List Nat) : Dk := if d.dn = true then d else match d.fu with
  | none => ⟨d.l ++ m, none, false⟩
  | some n => if m.length < n then ⟨d.l ++ m, some (n - m.length), false⟩ else ⟨d.l ++ m.take n, none, true⟩
def addE (d : Dk) (m : List Nat) : Nat := if d.dn = true then 8 else match d.fu with
  | none => 0
  | some n => if m.length < n then 0 else 8
def fuseD (d : Dk) (n : Int) : Dk := if d.dn = true then d else if n < 0 then d else ⟨d.l, some n.toNat, false⟩
def fuseE (d : Dk) (n : Int) : Nat := if d.dn = true then 8 else if n < 0 then 1 else 0
def upD (d : Dk) : Dk := ⟨d.l, none, false⟩
def cutD (d : Dk) (n : Int) : Dk := if d.dn = true then d else if n < 0 ∨ (d.l.length : Int) < n then d else ⟨d.l.take n.toNat, d.fu, false⟩
def cutE (d : Dk) (n : Int) : Nat := if d.dn = true then 8 else if n < 0 ∨ (d.l.length : Int) < n then 1 else 0

theorem addD_down {d : Dk} {m : List Nat} (h : d.dn = true) : addD d m = d ∧ addE d m = 8 := by simp [addD, addE, h]
/-- A fuse is no more than an int holds. -/
def Dk.okF (d : Dk) : Prop := ∀ n, d.fu = some n → (n : Int) ≤ 9223372036854775807

theorem own_by_ne {w : World} {base b : Nat} {l : List Nat} {t : TypeId} {v : Value} {c : Array Value} (h : OwnB w base l v) (h' : Own w b c t) (hne : 5 ≠ t) : some b ≠ v.ownBlock := by
  rcases h.2 with ⟨rfl, _⟩ | ⟨g, cap, cur, rfl, _, hg, _⟩
  · simp [Value.ownBlock]
  · simp only [Value.ownBlock, ne_eq, Option.some.injEq]
    intro e; subst e
    have := h'.blk
    rw [hg] at this
    simp only [Option.some.injEq, Obj.cells.injEq] at this
    exact hne this.2.1

/-- What lies in block g, and the bytes that it keeps. -/
structure Bx (w : World) (base g : Nat) (C : Array Value) (ty : TypeId) (l : List Nat) (v : Value) : Prop where
  o : Own w g C ty
  ge : base ≤ g
  row : OwnB w base l v
  ok : ∀ n ∈ l, n < 256
/-- What a call made of it. -/
structure BxT (base g : Nat) (v : Value) (w w' : World) (C : Array Value) (ty : TypeId) (l : List Nat) (v' : Value) : Prop where
  bx : Bx w' base g C ty l v'
  same : ∀ k, v'.ownBlock = some k → v.ownBlock = some k ∨ w.heap.size ≤ k
  bel : Below base w w'
  but : But (fun k => k = g ∨ some k = v.ownBlock) w w'
theorem Bx.stay {w : World} {base g : Nat} {C : Array Value} {ty : TypeId} {l : List Nat} {v : Value} (h : Bx w base g C ty l v) : BxT base g v w w C ty l v := ⟨h, fun _ hk => .inl hk, Below.refl _ _, But.refl _⟩
theorem Bx.later {w w' : World} {base g : Nat} {C : Array Value} {ty : TypeId} {l : List Nat} {v : Value} (h : Bx w base g C ty l v) (hb : Below w.heap.size w w') : Bx w' base g C ty l v := ⟨h.o.later hb, h.ge, h.row.later hb, h.ok⟩
theorem Bx.size {w : World} {base g : Nat} {C : Array Value} {ty : TypeId} {l : List Nat} {v : Value} (h : Bx w base g C ty l v) : base ≤ w.heap.size := by have := h.o.lt; have := h.ge; omega
theorem BxT.set {base g : Nat} {v v' : Value} {w w' : World} {C : Array Value} {ty : TypeId} {l : List Nat} (h : BxT base g v w w' C ty l v') (hne : 5 ≠ ty) (o : Nat) (x : Value) : BxT base g v w (w'.setCell ⟨g, o, none⟩ x) (C.setIfInBounds o x) ty l v' := by
  refine ⟨⟨h.bx.o.set o x, h.bx.ge, ?_, h.bx.ok⟩, h.same, h.bel.setCell h.bx.ge x, h.but.trans (But.set (.inl rfl) x)⟩
  refine World.ownsRow.kept h.bx.row (row := some g) ⟨rfl, rfl, rfl, by simp [World.setCell], fun k _ hk => Below.heap_setCell _ _ _ _ (by simpa using hk)⟩ (.inr (Ne.symm (own_by_ne h.bx.row h.bx.o hne)))
/-- The bytes that it keeps are others now: what they are made of is told of the world ahead of the store. -/
theorem BxT.put {base g : Nat} {v u : Value} {w w1 : World} {C : Array Value} {ty : TypeId} {l : List Nat} (o : Own w1 g C ty) (ge : base ≤ g) (row : OwnB w1 base l u) (ok : ∀ n ∈ l, n < 256) (hne : 5 ≠ ty) (same : ∀ k, u.ownBlock = some k → v.ownBlock = some k ∨ w.heap.size ≤ k) (bel : Below base w w1) (but : But (fun k => k = g ∨ some k = v.ownBlock) w w1) (i : Nat) :
    BxT base g v w (w1.setCell ⟨g, i, none⟩ u) (C.setIfInBounds i u) ty l u :=
  BxT.set ⟨⟨o, ge, row, ok⟩, same, bel, but⟩ hne i u

theorem Bx.pushed {w w1 : World} {base g : Nat} {C : Array Value} {ty : TypeId} {l l' : List Nat} {v u : Value} (h : Bx w base g C ty l v) (hne : 5 ≠ ty) (row : OwnB w1 base l' u) (ok : ∀ n ∈ l', n < 256) (hgr : w.grownBy w1 v.ownBlock) (same : ∀ k, u.ownBlock = some k → v.ownBlock = some k ∨ w.heap.size ≤ k) (i : Nat) :
    BxT base g v w (w1.setCell ⟨g, i, none⟩ u) (C.setIfInBounds i u) ty l' u :=
  BxT.put (h.o.grown hgr (own_by_ne h.row h.o hne)) h.ge row ok hne same ((Below.refl _ _).grown hgr h.size (fun k hk => (World.ownsRow.lt h.row k hk).1)) ⟨hgr.size, fun b hb hS => hgr.block b hb (fun e => hS (.inr e))⟩ i
theorem BxT.from {base g : Nat} {v v' : Value} {w wd w' : World} {C : Array Value} {ty : TypeId} {l : List Nat} (h : BxT base g v wd w' C ty l v') (hb : Later w wd) (hs : base ≤ w.heap.size) : BxT base g v w w' C ty l v' :=
  ⟨h.bx, fun k hk => (h.same k hk).imp id fun h2 => Nat.le_trans hb.size h2, (hb.mono hs).trans h.bel, (But.of hb).trans h.but⟩
theorem Bx.renewed {w w1 : World} {base g : Nat} {C : Array Value} {ty : TypeId} {l l' : List Nat} {v u : Value} (h : Bx w base g C ty l v) (hne : 5 ≠ ty) (row : OwnB w1 w.heap.size l' u) (hb : Later w w1) (ok : ∀ n ∈ l', n < 256) (i : Nat) :
    BxT base g v w (w1.setCell ⟨g, i, none⟩ u) (C.setIfInBounds i u) ty l' u :=
  BxT.put (h.o.later hb) h.ge (row.mono h.size) ok hne (fun k hk => .inr (World.ownsRow.lt row k hk).1) (hb.mono h.size) (But.of hb) i
theorem BxT.trans {base g : Nat} {v v1 v2 : Value} {w w1 w2 : World} {C C2 : Array Value} {ty : TypeId} {l l2 : List Nat} (h : BxT base g v w w1 C ty l v1) (k : BxT base g v1 w1 w2 C2 ty l2 v2) : BxT base g v w w2 C2 ty l2 v2 := by
  refine ⟨k.bx, fun j hj => ?_, h.bel.trans k.bel, ⟨Nat.le_trans h.but.size k.but.size, fun b hb ht => ?_⟩⟩
  · rcases k.same j hj with e | e
    · exact h.same j e
    · exact .inr (Nat.le_trans h.but.size e)
  · refine (k.but.blk b (Nat.lt_of_lt_of_le hb h.but.size) fun e => ?_).trans (h.but.blk b hb ht)
    rcases e with e | e
    · exact ht (.inl e)
    · rcases h.same b e.symm with e2 | e2
      · exact ht (.inr e2.symm)
      · omega
theorem own_none {w : World} {base b : Nat} (h : Own w b #[] 5) (hb : base ≤ b) : OwnB w base [] (.slice (some ⟨b, 0, none⟩) 0 0) :=
  ⟨by simp [byC], .inr ⟨b, 0, #[], rfl, hb, h.blk, Nat.le_refl _, by decide, by simp, by simp [byC]⟩⟩
theorem ok_append {l m : List Nat} (h : ∀ n ∈ l, n < 256) (h2 : ∀ n ∈ m, n < 256) : ∀ n ∈ l ++ m, n < 256 := fun n hn => (List.mem_append.1 hn).elim (h n) (h2 n)

/-- Bytes appended: where they lie then. -/
theorem run_append_at (ty : TypeId) {w : World} {base : Nat} {v sv : Value} {l m : List Nat} (hown : OwnB w base l v) (hM : ByW w m sv) (hn : l.length + m.length ≤ 140737488355328) (hbase : base ≤ w.heap.size) :
    ∃ v' w', (Builtin.append_ #[26, 26] ty #[v, sv]).run Try.prog w = .ok v' w' ∧ OwnB w' base (l ++ m) v' ∧ w.grownBy w' v.ownBlock ∧ ∀ k, v'.ownBlock = some k → v.ownBlock = some k ∨ w.heap.size ≤ k := by
  obtain ⟨oa, cap, b, o, rfl, h⟩ := hM
  obtain ⟨j0, hj, hy0, hy1, hy2⟩ := info_parts info_byte
  by_cases h0 : m.length = 0
  · have e : m = [] := List.length_eq_zero_iff.1 h0
    subst e
    obtain ⟨ov, cv, e, h1, _⟩ := hown.val
    subst e
    refine ⟨.slice ov l.length cv, w, ?_, by simpa using hown, ⟨rfl, rfl, rfl, Nat.le_refl _, fun _ _ _ => rfl⟩, fun k hk => .inl hk⟩
    have hf : (Builtin.firstCells j0.size 0 (.slice oa 0 cap)).run Try.prog w = .ok #[] w := by
      cases oa with
      | none => exact run_firstCells_none w _ _ _ _
      | some a => exact run_firstCells_some w j0.size 0 a 0 cap [] (by simp) (fun j v h => by simp at h)
    have hs : ∀ a : Addr, (storeCells a []).run Try.prog w = .ok () w := fun a => by simp [storeCells]
    cases ov with
    | none => simp [Builtin.append_, run_underlying Try.underlying26, sizeOf, typeInfo, hj, Builtin.lenOf, h1, hf, Result.andThen]
    | some a => simp [Builtin.append_, run_underlying Try.underlying26, sizeOf, typeInfo, hj, Builtin.lenOf, h1, hf, hs, Result.andThen]
  · obtain ⟨rfl, _⟩ := h.at0 (by omega)
    obtain ⟨v', w', r1, r2, r3, _, r5⟩ := run_append_own_at w base 26 ty 5 j0 _ 1 1 Try.underlying26 hj hy0 hy1 hy2 rfl (by omega) v l.length (byC l) hown ⟨b, o, none⟩ m.length cap (byC m) (by simp [byC]) (fun j u hu => by
      simp only [byC, List.getElem?_map, Option.map_eq_some_iff] at hu
      obtain ⟨n, hn, rfl⟩ := hu
      rw [addB]; exact h.cell j n hn) (oneB m) (by unfold maxLen; omega) (by omega) hbase
    refine ⟨v', w', r1, ?_, r3, fun k hk => ?_⟩
    · unfold OwnB
      rw [List.length_append, byC, List.map_append]
      exact r2
    · rcases r5 with e | e
      · exact .inl (by rw [← e]; exact hk)
      · rw [e] at hk; cases hk; exact .inr (Nat.le_refl _)
/-- The first of the bytes that it keeps. -/
theorem OwnB.upto {w : World} {base : Nat} {l : List Nat} {oa : Option Addr} {n cap : Nat} (h : OwnB w base l (.slice oa n cap)) (k : Nat) (hk : k ≤ l.length) : OwnB w base (l.take k) (.slice (slA oa 0 cap) k cap) ∧ ((Value.slice (slA oa 0 cap) k cap).ownBlock = (Value.slice oa n cap).ownBlock) := by
  rcases h.2 with ⟨e, e2⟩ | ⟨g, cap', cur, e, hb, hg, h1, h2, h3, h4⟩
  · cases e
    have : k = 0 := by omega
    subst this
    exact ⟨by simpa [slA] using OwnB.nil w base, rfl⟩
  · cases e
    have hsl : slA (some ⟨g, 0, none⟩) 0 cap = some ⟨g, 0, none⟩ := by
      unfold slA
      split
      · rfl
      · rw [Option.map_some, addB]
    rw [hsl]
    refine ⟨⟨by simp [byC], .inr ⟨g, cap, cur, ?_, hb, hg, ?_, h2, h3, ?_⟩⟩, rfl⟩
    · rw [show (l.take k).length = k by simp; omega]
    · simp; omega
    · have e5 : byC (l.take k) = (byC l).take k := by simp [byC]
      rw [e5, ← h4, List.take_take, show min k (l.length * 1) = (l.take k).length * 1 by simp]
theorem OwnB.drew {w : World} {base : Nat} {l : List Nat} {v : Value} (h : OwnB w base l v) : OwnB w.drew base l v := h.later (Below.refl _ _).drew

end Go.Proofs.Yteofkbidahefeaa
