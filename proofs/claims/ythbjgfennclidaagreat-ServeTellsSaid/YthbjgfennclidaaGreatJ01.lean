/- Joined: Kit, Own, VecM, RefVec, Set8. -/
import Derived.Test.YthbjgfennclidaaGreatRows
import Derived.WalkKit
import Derived.WalkSpells
import Derived.WalkLawsBesides
import Derived.Lib.Hide
import Derived.StillTailTactics
import Derived.BigQuiet
import Derived.Lib.QuietBelow
import Derived.Deep.AppendLies
import Derived.OwnWalk
import Derived.Deep.CutBlock
import Derived.Deep.DeepCutAuto
/- Small laws that the walks share: stores of floats and complex numbers, cells below a bound. -/
namespace Go.Proofs.YthbjgfennclidaaGreat
set_option linter.unusedVariables false
set_option linter.unusedSimpArgs false
set_option maxRecDepth 100000
open Go.RowKit
@[go_sem] theorem run_store_float' (P : Program) (w : World) (a : Addr) (m : Mode) (k : FloatKind) (b : Nat) : (store a (.float k b) m).run P w = stored P w a (.float k b) m := run_store P w a _ m rfl
@[go_sem] theorem run_store_complex' (P : Program) (w : World) (a : Addr) (m : Mode) (k : FloatKind) (x y : Nat) : (store a (.complex k x y) m).run P w = stored P w a (.complex k x y) m := run_store P w a _ m rfl
theorem ret_bool {a b : Bool} (h : a = b) : Ending.returned (.bool a) = .returned (.bool b) := by rw [h]
theorem ret_int {k : IntKind} {a b : Int} (h : a = b) : Ending.returned (.int k a) = .returned (.int k b) := by rw [h]
theorem bcell {W w1 : World} (hb : Below W.heap.size W w1) : (∀ b o, b < W.heap.size → w1.cell? ⟨b, o, none⟩ = W.cell? ⟨b, o, none⟩) ∧ (∀ b o, b < W.heap.size → w1.frozen? ⟨b, o, none⟩ = W.frozen? ⟨b, o, none⟩) :=
  ⟨fun b o h => hb.cell (p := ⟨b, o, none⟩) h, fun b o h => hb.frozen (p := ⟨b, o, none⟩) h⟩
theorem toList_size (s : ByteArray) : s.toList.length = s.size := by
  rw [ByteArray.toList_eq]; simp
theorem below_new {w w' : World} {o : Obj} (h : Below (w.alloc o).heap.size (w.alloc o) w') : Below w.heap.size w w' :=
  ((Below.refl _ _).alloc (Nat.le_refl _) _).trans (h.mono (by simp))
theorem below_then {a b c : World} {B B' : Nat} (h1 : Below B a b) (h2 : Below B' b c) (h : B ≤ B') : Below B a c := h1.trans (h2.mono h)
theorem region_still_tail {P : Program} {id : Nat} {Q : Exit → Act → World → Prop} {a : Act} {w : World} {l : List Oper} (n : Nat) (hm : P.follows .mixedOrders = true) (hB : Region.lexTailB .any l.toArray n = true)
    (h : wpStill P l.toArray w.drew (fun a' => wpList P l.toArray Q (l.drop n) a' w.drew) (l.take n) a) : (Code.region id l.toArray true).wp P Q a w := wp_region_still_tail n hm hB h
theorem still_of {P : Program} {f : FuncId} {args : Array Value} {w : World} {v : Value} (h : Calls P f args w fun e w' => e = .returned v ∧ w = w') : Calls P f args w fun e w' => e = .returned v ∧ w' = w :=
  h.mono fun _ _ h => ⟨h.1, h.2.symm⟩
@[go_sem] theorem run_equalIn_complex' {P : Program} (w : World) (d : Nat) (t : TypeId) (k k' : FloatKind) (a b a' b' : Nat) (h : P.underlying t = some (.complex k')) : (Op.equalIn (d + 1) t (.complex k a b) (.complex k a' b')).run P w = .ok (k.format.order a a' == some .eq && k.format.order b b' == some .eq) w := by
  simp [Op.equalIn, run_underlying h, Op.floatEq]
structure Has (w : World) (b : Nat) (c : Array Value) : Prop where
  lt : b < w.heap.size
  cell : ∀ o, w.cell? ⟨b, o, none⟩ = c[o]?
theorem Has.new (w : World) (c : Array Value) (t : TypeId) : Has (w.alloc (.cells c t)) w.heap.size c :=
  ⟨by simp, fun o => by simp⟩
theorem Has.below {w w' : World} {b B : Nat} {c : Array Value} (h : Has w b c) (hb : Below B w w') (hB : b < B) : Has w' b c :=
  ⟨Nat.lt_of_lt_of_le h.lt hb.size, fun o => by rw [hb.cell (p := ⟨b, o, none⟩) hB]; exact h.cell o⟩
theorem Has.alloc {w : World} {b : Nat} {c : Array Value} (h : Has w b c) (o : Obj) : Has (w.alloc o) b c :=
  h.below ((Below.refl _ _).alloc (Nat.le_refl _) _) h.lt
theorem Has.drew {w : World} {b : Nat} {c : Array Value} (h : Has w b c) : Has w.drew b c := ⟨h.lt, fun o => h.cell o⟩
theorem Has.regrown {w : World} {b : Nat} {c : Array Value} (h : Has w b c) (d : Nat) (os : Array Obj) (o : Nat) : (Sort.grow (redrawn w d) os).cell? ⟨b, o, none⟩ = c[o]? :=
  (h.below (below_regrown w d os) h.lt).cell o
theorem regrown_below {w w' : World} (h : ∃ p : Regrown, w' = Sort.grow (redrawn w p.d) p.os) : Below w.heap.size w w' := by
  obtain ⟨p, rfl⟩ := h; exact below_regrown w p.d p.os
end Go.Proofs.YthbjgfennclidaaGreat
/- Blocks that are known whole, and what stays of them. No walk. -/
namespace Go.Proofs.YthbjgfennclidaaGreat
set_option linter.unusedVariables false
set_option linter.unusedSimpArgs false
set_option maxRecDepth 100000
open Go.RowKit
structure Own (w : World) (b : Nat) (c : Array Value) (t : TypeId) : Prop where
  blk : w.heap[b]? = some (.cells c t (0, 0))
theorem Own.lt {w : World} {b : Nat} {c : Array Value} {t : TypeId} (h : Own w b c t) : b < w.heap.size := by
  rcases Nat.lt_or_ge b w.heap.size with hlt | hge
  · exact hlt
  · have := h.blk; rw [Array.getElem?_eq_none hge] at this; cases this
theorem Own.cell {w : World} {b : Nat} {c : Array Value} {t : TypeId} (h : Own w b c t) (o : Nat) : w.cell? ⟨b, o, none⟩ = c[o]? := by
  simp [World.cell?, h.blk]
theorem Own.free {w : World} {b : Nat} {c : Array Value} {t : TypeId} (h : Own w b c t) (o : Nat) : w.frozen? ⟨b, o, none⟩ = false := by
  simp [World.frozen?, h.blk]
theorem Own.has {w : World} {b : Nat} {c : Array Value} {t : TypeId} (h : Own w b c t) : Has w b c := ⟨h.lt, h.cell⟩
theorem Own.new (w : World) (c : Array Value) (t : TypeId) : Own (w.alloc (.cells c t)) w.heap.size c t := ⟨heap_alloc_new w _⟩
theorem Own.newAt (w : World) (c : Array Value) (t : TypeId) {b : Nat} (hb : w.heap.size = b) : Own (w.alloc (.cells c t)) b c t := by subst hb; exact Own.new w c t
theorem Own.below {w w' : World} {b B : Nat} {c : Array Value} {t : TypeId} (h : Own w b c t) (hb : Below B w w') (hB : b < B) : Own w' b c t := ⟨by rw [hb.block b hB]; exact h.blk⟩
theorem Own.later {w w' : World} {b : Nat} {c : Array Value} {t : TypeId} (h : Own w b c t) (hb : Below w.heap.size w w') : Own w' b c t := h.below hb h.lt
theorem Own.alloc {w : World} {b : Nat} {c : Array Value} {t : TypeId} (h : Own w b c t) (o : Obj) : Own (w.alloc o) b c t := h.later ((Below.refl _ _).alloc (Nat.le_refl _) _)
theorem Own.drew {w : World} {b : Nat} {c : Array Value} {t : TypeId} (h : Own w b c t) : Own w.drew b c t := ⟨h.blk⟩
theorem Own.grown {w w' : World} {b : Nat} {c : Array Value} {t : TypeId} {row : Option Nat} (h : Own w b c t) (hg : w.grownBy w' row) (hne : some b ≠ row) : Own w' b c t := ⟨by rw [hg.block b h.lt hne]; exact h.blk⟩
theorem Own.setFar {w : World} {b : Nat} {c : Array Value} {t : TypeId} (h : Own w b c t) (p : Addr) (v : Value) (hne : b ≠ p.block) : Own (w.setCell p v) b c t := ⟨by rw [Below.heap_setCell _ _ _ _ hne]; exact h.blk⟩
theorem Own.set {w : World} {b : Nat} {c : Array Value} {t : TypeId} (h : Own w b c t) (o : Nat) (v : Value) : Own (w.setCell ⟨b, o, none⟩ v) b (c.setIfInBounds o v) t := ⟨by
  have h1 := h.blk
  simp only [World.setCell, Array.getElem?_modify, if_true]
  rw [h1]; simp⟩
theorem ownsRow_below {w w' : World} {base : Nat} {e : TypeId} {size : Nat} {v : Value} {n : Nat} {xs : List Value} (h : w.ownsRow base e size v n xs) (hb : Below w.heap.size w w') : w'.ownsRow base e size v n xs :=
  h.kept (row := none) ⟨hb.os, hb.tape, hb.output, hb.size, fun k hk _ => hb.block k hk⟩ (by cases v.ownBlock <;> simp)
theorem own_ne {w : World} {base b : Nat} {e : TypeId} {size : Nat} {v : Value} {n : Nat} {xs : List Value} (h : w.ownsRow base e size v n xs) (hb : b < base) : some b ≠ v.ownBlock := by
  intro e'
  have := h.lt b e'.symm
  omega
theorem row_slice {w : World} {base : Nat} {e : TypeId} {size : Nat} {v : Value} {n : Nat} {xs : List Value} (h : w.ownsRow base e size v n xs) :
    ∃ (oa : Option Addr) (cap g : Nat), v = .slice oa n cap ∧ n ≤ cap ∧ cap ≤ maxLen ∧ (0 < n → oa = some ⟨g, 0, none⟩ ∧ base ≤ g ∧ g < w.heap.size) := by
  rcases h.2 with ⟨rfl, rfl⟩ | ⟨g, cap, cur, rfl, hb, hg, h1, h2, _⟩
  · exact ⟨none, 0, 0, rfl, Nat.le_refl _, Nat.zero_le _, fun h => absurd h (Nat.lt_irrefl _)⟩
  · exact ⟨_, cap, g, rfl, h1, h2, fun _ => ⟨rfl, hb, (h.lt g rfl).2⟩⟩
end Go.Proofs.YthbjgfennclidaaGreat
/- Counts of replicas: eight whole numbers; plain mathematics, and how they lie. No walk. -/
namespace Go.Proofs.YthbjgfennclidaaGreat
set_option linter.unusedVariables false
set_option linter.unusedSimpArgs false
set_option maxRecDepth 100000
open Go.RowKit
abbrev arr8 (A : Nat → Int) : Array Value := #[.int .i64 (A 0), .int .i64 (A 1), .int .i64 (A 2), .int .i64 (A 3), .int .i64 (A 4), .int .i64 (A 5), .int .i64 (A 6), .int .i64 (A 7)]
abbrev vecV (A : Nat → Int) : Value := .agg #[.int .i64 (A 0), .int .i64 (A 1), .int .i64 (A 2), .int .i64 (A 3), .int .i64 (A 4), .int .i64 (A 5), .int .i64 (A 6), .int .i64 (A 7)]
theorem arr_get (A : Nat → Int) {k : Nat} (h : k < 8) : (arr8 A)[k]? = some (.int .i64 (A k)) := by
  match k, h with
  | 0, _ | 1, _ | 2, _ | 3, _ | 4, _ | 5, _ | 6, _ | 7, _ => rfl
theorem arr_set (A : Nat → Int) {k : Nat} (h : k < 8) (v : Int) : (arr8 A).setIfInBounds k (.int .i64 v) = arr8 (fun j => if j = k then v else A j) := by
  match k, h with
  | 0, _ | 1, _ | 2, _ | 3, _ | 4, _ | 5, _ | 6, _ | 7, _ => simp [arr8]
theorem arr_congr {A B : Nat → Int} (h : ∀ j, j < 8 → A j = B j) : arr8 A = arr8 B := by
  unfold arr8
  rw [h 0 (by omega), h 1 (by omega), h 2 (by omega), h 3 (by omega), h 4 (by omega), h 5 (by omega), h 6 (by omega), h 7 (by omega)]
def maxV (A B : Nat → Int) (k : Nat) : Int := if A k < B k then B k else A k
def mayV (A : Nat → Int) : Bool := (List.range 8).all fun k => (decide (0 ≤ A k) && decide (A k ≤ 1000))
def cntV (A : Nat → Int) (r : Int) : Int := if 1 ≤ r ∧ r ≤ 8 then A (r - 1).toNat else 0
def hasV (A : Nat → Int) (r c : Int) : Bool := decide (1 ≤ c) && decide (c ≤ cntV A r)
theorem mayV_iff {A : Nat → Int} : mayV A = true ↔ ∀ k, k < 8 → 0 ≤ A k ∧ A k ≤ 1000 := by simp [mayV, List.all_eq_true]
theorem mayV_false {A : Nat → Int} {k : Nat} (hk : k < 8) (h : A k < 0 ∨ 1000 < A k) : mayV A = false := by
  cases e : mayV A with
  | false => rfl
  | true => have := mayV_iff.1 e k hk; omega
/-! ### What follows -/
end Go.Proofs.YthbjgfennclidaaGreat
/- Counts of replicas: the document's answers, walked. -/
namespace Go.Proofs.YthbjgfennclidaaGreat
set_option linter.unusedVariables false
set_option linter.unusedSimpArgs false
set_option maxRecDepth 100000
open Go.RowKit
theorem cnt_out {A : Nat → Int} {r : Int} (h : r < 1 ∨ 8 < r) : cntV A r = 0 := by unfold cntV; rw [if_neg (by omega)]
theorem cnt_in {A : Nat → Int} {k : Nat} (h : k < 8) : cntV A ((k : Int) + 1) = A k := by
  unfold cntV
  rw [if_pos (by omega)]
  congr 1
  omega
set_option maxHeartbeats 1000000 in
theorem count_calls (A : Nat → Int) (r : Int) (w : World) :
    Calls Tryz.prog 108 #[vecV A, .int .i64 r] w fun e w' => e = .returned (.int .i64 (cntV A r)) ∧ Below w.heap.size w w' := by
  have HB := Lib.hid ((Below.refl w.heap.size w).alloc (Nat.le_refl _) (.cells (arr8 A) 28))
  by_cases h1 : r < 1
  · have E := Lib.hid (cnt_out (A := A) (.inl h1))
    have g1 : decide (r < 1) = true := decide_eq_true h1
    go_enter Tryz.func108, Tryz.ntmps108
    go_wp2_with fail
    go_ret
    exact ⟨by rw [E.out]; rfl, HB.out⟩
  by_cases h2 : 8 < r
  · have E := Lib.hid (cnt_out (A := A) (.inr h2))
    have g1 : decide (r < 1) = false := decide_eq_false h1
    have g2 : decide (8 < r) = true := decide_eq_true h2
    go_enter Tryz.func108, Tryz.ntmps108
    go_wp2_with fail
    go_ret
    exact ⟨by rw [E.out]; rfl, HB.out⟩
  · obtain ⟨k, rfl⟩ : ∃ k : Nat, r = (k : Int) + 1 := ⟨(r - 1).toNat, by omega⟩
    have hk : k < 8 := by omega
    have E := Lib.hid (cnt_in (A := A) hk)
    have g1 : decide ((k : Int) + 1 < 1) = false := decide_eq_false h1
    have g2 : decide (8 < (k : Int) + 1) = false := decide_eq_false h2
    have g3 : (k : Int) + 1 - 1 = (k : Int) := by omega
    have c := ((Own.new w (arr8 A) 28).cell k).trans (arr_get A hk)
    have k0 : (0 : Int) ≤ (k : Int) := by omega
    have k1 : (k : Int) < 8 := by omega
    clear h1 h2
    go_enter Tryz.func108, Tryz.ntmps108
    go_wp2_with fail
    go_ret
    exact ⟨by rw [E.out]; rfl, HB.out⟩
set_option maxHeartbeats 1000000 in
theorem hasVec_calls (A : Nat → Int) (r c : Int) (w : World) :
    Calls Tryz.prog 63 #[vecV A, .agg #[.int .i64 r, .int .i64 c]] w fun e w' => e = .returned (.bool (hasV A r c)) ∧ Below w.heap.size w w' := by
  have G1 := Lib.hid ((Has.new w (arr8 A) 28).alloc (.cells #[.int .i64 r, .int .i64 c] 66))
  have G2 := Lib.hid ((Own.newAt (w.alloc (.cells (arr8 A) 28)) #[.int .i64 r, .int .i64 c] 66 (b := w.heap.size + 1) (by simp)).has)
  have LA := fun dd os o => G1.out.regrown dd os o
  have LB := fun dd os o => G2.out.regrown dd os o
  have m := fun dd os => Lib.hid (Calls.regrown_of (count_calls A r (Sort.grow (redrawn ((w.alloc (.cells (arr8 A) 28)).alloc (.cells #[.int .i64 r, .int .i64 c] 66)) dd) os)))
  unfold hasV
  generalize cntV A r = n at *
  cases hg : decide (1 ≤ c)
  all_goals
    go_enter Tryz.func63, Tryz.ntmps63
    go_wp2_with fail
    refine wp_region_quiet_below (by kernel_rfl) (by kernel_rfl) ?_
    repeat (first | go_big_quiet_step ((with_reducible exact (m _ _).out)) | quiet_step (with_reducible exact (m _ _).out))
    refine wpQuiet_nil ?_
    intro w7 hw'
    have hb' := Lib.hid (regrown_below hw')
    clear hw'
    go_wp2_with fail
    go_ret
    exact ⟨ret_bool (by simp), below_new (below_new hb'.out)⟩
def VAllRel (P : Nat → Prop) (w0 : World) (i : Value) (wr : World) : Prop := ∃ k : Nat, k ≤ 8 ∧ i = .int .i64 k ∧ Hid (∀ j, j < k → P j) ∧ Below w0.heap.size w0 wr
theorem all_step {P : Nat → Prop} {k : Nat} (h : ∀ j, j < k → P j) (hk : P k) : ∀ j, j < k + 1 → P j := by
  intro j hj
  by_cases e : j = k
  · rw [e]; exact hk
  · exact h j (by omega)
set_option maxHeartbeats 2000000 in
theorem mayVec_calls (A : Nat → Int) (w : World) :
    Calls Tryz.prog 104 #[vecV A] w fun e w' => e = .returned (.bool (mayV A)) ∧ Below w.heap.size w w' := by
  go_enter Tryz.func104, Tryz.ntmps104
  go_wp2_with fail
  go_loopw [3] (fun i wr => VAllRel (fun j => 0 ≤ A j ∧ A j ≤ 1000) (w.alloc (.cells (arr8 A) 28)) i wr) (fun i _ => 8 - (intOf i).toNat)
  case atStart => exact ⟨0, by omega, rfl, fun j hj => absurd hj (by omega), Below.refl _ _⟩
  case round =>
    obtain ⟨k, hk, rfl, HS, hb⟩ := hrel
    have BW := Lib.hid (below_new hb)
    have G1 := Lib.hid ((Has.new w (arr8 A) 28).below hb (by simp))
    have HB := Lib.hid hb
    clear hb
    by_cases hlt : k < 8
    · have c := (G1.out.cell k).trans (arr_get A hlt)
      have k0 : (0 : Int) ≤ (k : Int) := by omega
      have k1 : (k : Int) < 8 := by omega
      by_cases h : A k < 0
      · have E := Lib.hid (mayV_false hlt (.inl h))
        have g : decide (A k < 0) = true := decide_eq_true h
        go_wp2_with fail
        go_ret
        exact ⟨ret_bool E.out.symm, BW.out⟩
      by_cases h' : 1000 < A k
      · have E := Lib.hid (mayV_false hlt (.inr h'))
        have g : decide (A k < 0) = false := decide_eq_false h
        have g' : decide (1000 < A k) = true := decide_eq_true h'
        go_wp2_with fail
        go_ret
        exact ⟨ret_bool E.out.symm, BW.out⟩
      · have HN := Lib.hid (all_step (P := fun j => 0 ≤ A j ∧ A j ≤ 1000) HS.out (by omega))
        have g : decide (A k < 0) = false := decide_eq_false h
        have g' : decide (1000 < A k) = false := decide_eq_false h'
        go_wp2_with fail
        go_roundw
        case rel => exact ⟨k + 1, by omega, by go_num, HN.out, HB.out⟩
        case measure => simp [intOf]; omega
    · have e : k = 8 := by omega
      subst e
      have E := Lib.hid (mayV_iff.2 HS.out)
      go_wp2_with fail
      go_ret
      exact ⟨ret_bool E.out.symm, BW.out⟩
def upTo (k : Nat) (M : Nat → Int) (j : Nat) : Int := if j < k then M j else 0
theorem upTo_step (M : Nat → Int) (k : Nat) : (fun j => if j = k then M k else upTo k M j) = upTo (k + 1) M := by
  funext j; unfold upTo; split
  · rename_i h; rw [h, if_pos (by omega)]
  · split
    · rw [if_pos (by omega)]
    · rw [if_neg (by omega)]
structure MSt (A B M : Nat → Int) (k : Nat) (w wr : World) : Prop where
  o1 : Own wr w.heap.size (arr8 A) 28
  o2 : Own wr (w.heap.size + 1) (arr8 B) 28
  o3 : Own wr (w.heap.size + 1 + 1) (arr8 fun _ => 0) 28
  o4 : Own wr (w.heap.size + 1 + 1 + 1) (arr8 (upTo k M)) 28
  bel : Below w.heap.size w wr
theorem MSt.later {A B M : Nat → Int} {k : Nat} {w wr w' : World} (h : MSt A B M k w wr) (hb : Below wr.heap.size wr w') : MSt A B M k w w' :=
  ⟨h.o1.later hb, h.o2.later hb, h.o3.later hb, h.o4.later hb, h.bel.trans (hb.mono h.bel.size)⟩
theorem MSt.put {A B M : Nat → Int} {k : Nat} {w wr : World} (h : MSt A B M k w wr) (hk : k < 8) (v : Int) :
    Own (wr.setCell ⟨w.heap.size + 1 + 1 + 1, k, none⟩ (.int .i64 v)) (w.heap.size + 1 + 1 + 1) (arr8 (fun j => if j = k then v else upTo k M j)) 28 ∧ ∀ F, Own wr (w.heap.size + 1 + 1 + 1) (arr8 F) 28 → Own (wr.setCell ⟨w.heap.size + 1 + 1 + 1, k, none⟩ (.int .i64 v)) (w.heap.size + 1 + 1 + 1) (arr8 (fun j => if j = k then v else F j)) 28 := by
  refine ⟨?_, fun F hF => ?_⟩
  · rw [← arr_set _ hk]; exact h.o4.set k _
  · rw [← arr_set _ hk]; exact hF.set k _
theorem MSt.step {A B M : Nat → Int} {k : Nat} {w wr w' : World} (h : MSt A B M k w wr) (h1 : Own w' w.heap.size (arr8 A) 28) (h2 : Own w' (w.heap.size + 1) (arr8 B) 28) (h3 : Own w' (w.heap.size + 1 + 1) (arr8 fun _ => 0) 28)
    (h4 : Own w' (w.heap.size + 1 + 1 + 1) (arr8 (fun j => if j = k then M k else upTo k M j)) 28) (hb : Below w.heap.size w w') : MSt A B M (k + 1) w w' :=
  ⟨h1, h2, h3, by rw [← upTo_step]; exact h4, hb⟩
def MxRel (A B M : Nat → Int) (w : World) (i : Value) (wr : World) : Prop := ∃ k : Nat, k ≤ 8 ∧ i = .int .i64 k ∧ Hid (MSt A B M k w wr)
end Go.Proofs.YthbjgfennclidaaGreat
/- Eight stores into one block. No walk. -/
namespace Go.Proofs.YthbjgfennclidaaGreat
set_option linter.unusedVariables false
set_option linter.unusedSimpArgs false
set_option maxRecDepth 100000
open Go.RowKit
def st8 (X : World) (b : Nat) (c0 c1 c2 c3 c4 c5 c6 c7 : Value) : World := ((((((((X.setCell ⟨b, 0, none⟩ c0).setCell ⟨b, 1, none⟩ c1).setCell ⟨b, 2, none⟩ c2).setCell ⟨b, 3, none⟩ c3).setCell ⟨b, 4, none⟩ c4).setCell ⟨b, 5, none⟩ c5).setCell ⟨b, 6, none⟩ c6).setCell ⟨b, 7, none⟩ c7)
theorem set_8 (z0 z1 z2 z3 z4 z5 z6 z7 c0 c1 c2 c3 c4 c5 c6 c7 : Value) : (((((((((#[z0, z1, z2, z3, z4, z5, z6, z7] : Array Value).setIfInBounds 0 c0).setIfInBounds 1 c1).setIfInBounds 2 c2).setIfInBounds 3 c3).setIfInBounds 4 c4).setIfInBounds 5 c5).setIfInBounds 6 c6).setIfInBounds 7 c7) = #[c0, c1, c2, c3, c4, c5, c6, c7] := by simp
theorem st8_own {X : World} {b : Nat} {z0 z1 z2 z3 z4 z5 z6 z7 : Value} {T : TypeId} (o : Own X b #[z0, z1, z2, z3, z4, z5, z6, z7] T) (c0 c1 c2 c3 c4 c5 c6 c7 : Value) : Own (st8 X b c0 c1 c2 c3 c4 c5 c6 c7) b #[c0, c1, c2, c3, c4, c5, c6, c7] T := by
  have h := ((((((((o.set 0 c0).set 1 c1).set 2 c2).set 3 c3).set 4 c4).set 5 c5).set 6 c6).set 7 c7)
  rw [set_8] at h
  exact h
theorem st8_below {w X : World} {B b : Nat} (hb : Below B w X) (hp : B ≤ b) (c0 c1 c2 c3 c4 c5 c6 c7 : Value) : Below B w (st8 X b c0 c1 c2 c3 c4 c5 c6 c7) := by
  unfold st8
  exact ((((((((hb.setCell (p := ⟨b, 0, none⟩) hp c0).setCell (p := ⟨b, 1, none⟩) hp c1).setCell (p := ⟨b, 2, none⟩) hp c2).setCell (p := ⟨b, 3, none⟩) hp c3).setCell (p := ⟨b, 4, none⟩) hp c4).setCell (p := ⟨b, 5, none⟩) hp c5).setCell (p := ⟨b, 6, none⟩) hp c6).setCell (p := ⟨b, 7, none⟩) hp c7)
end Go.Proofs.YthbjgfennclidaaGreat
