/- Joined: Nodes, KMap, InM, Pfx, KBey. -/
import Derived.Test.YthbjgfennclidaaGreatJ13
import Derived.Test.YthbjgfennclidaaGreatJ01
import Derived.Test.YthbjgfennclidaaGreatJ07
import Derived.Test.YthbjgfennclidaaGreatJ06
import Derived.Maps.OwnSet
import Derived.Test.YthbjgfennclidaaGreatJ14
import Derived.Test.YthbjgfennclidaaGreatJ10
import Derived.Test.YthbjgfennclidaaGreatJ02
/- A filter alone in a Not, two in an Or: plain mathematics, and how they lie. No walk. -/
namespace Go.Proofs.YthbjgfennclidaaGreat
set_option linter.unusedVariables false
set_option linter.unusedSimpArgs false
set_option maxRecDepth 100000
open Go.RowKit
theorem lies_leaf {w : World} (op : Int) (t : ByteArray) (n : Int) (x y : Nat) (ht : t.size ≤ maxLen) : LP w (.node op t n x y []) (.slice none 0 0) :=
  .mk op t n x y [] none 0 0 0 (fun _ => .nilFunc) ht (Nat.le_refl _) (Nat.zero_le _) (fun h => absurd h (Nat.lt_irrefl _)) (fun i p h => by simp at h) (fun i p h => by simp at h)
theorem predMay_parts {p : Pr} (h : p.mayB = true) : p.size ≤ 30 ∧ p.depth ≤ 6 ∧ p.all = true := by
  obtain ⟨h1, h2, h3⟩ := fits_true.1 h
  exact ⟨by omega, by omega, h3⟩
end Go.Proofs.YthbjgfennclidaaGreat
/- The maps of the code's Plain: counts by Ids, places by counts. No walk. -/
namespace Go.Proofs.YthbjgfennclidaaGreat
set_option linter.unusedVariables false
set_option linter.unusedSimpArgs false
set_option maxRecDepth 100000
open Go.RowKit Go.Maps
/-! ### Counts by Ids -/
abbrev heldR (v : Value) : Option (DataW Value × List MemPlace) := some (.held v, [])
abbrev keyL (s : ByteArray) : Lit := .string s.data.toList
theorem keyL_inj {s t : ByteArray} (h : keyL s = keyL t) : s = t := by
  simp only [keyL, Lit.string.injEq] at h
  cases s; cases t; simp at h; subst h; rfl
theorem keyL_of {s : ByteArray} (h : s.size ≤ maxLen) : keyOf Tryz.prog 9 (.string s) = some (keyL s) := by
  simp [keyOf, mapKey, Tryz.underlying9, h]
theorem lawS : Keyed Tryz.prog 9 := string_keyed Tryz.underlying9
theorem zeroVec (w : World) : (zeroValue 28).run Tryz.prog w = .ok (vecV zeroV) w := by kernel_rfl
def Cnt (w : World) (b nn : Nat) (ids : List ByteArray) (raw : ByteArray → Nat → Int) : Prop :=
  ∃ D : DataW Value, w.ownsMap Tryz.prog 9 heldR b nn D ∧ (∀ s, D.atKey (keyL s) (.held (vecV zeroV)) = .held (vecV (raw s))) ∧ (∀ s, Maps.has D (keyL s) = true ↔ s ∈ ids)
section
variable {w w' : World} {b nn : Nat} {ids : List ByteArray} {raw : ByteArray → Nat → Int}
theorem Cnt.made (w : World) : Cnt (w.alloc (.map #[] 0)) w.heap.size 0 [] (fun _ => zeroV) :=
  ⟨.map [], World.ownsMap_made _ _ _ _, fun s => by simp [DataW.atKey], fun s => by simp [Maps.has]⟩
theorem Cnt.lt (h : Cnt w b nn ids raw) : b < w.heap.size := by
  obtain ⟨D, h, _⟩ := h
  exact h.lt
theorem Cnt.later (h : Cnt w b nn ids raw) (hb : Below w.heap.size w w') : Cnt w' b nn ids raw := by
  have hlt := h.lt
  obtain ⟨D, ⟨es, clock, h1, F, h2, h3⟩, r⟩ := h
  exact ⟨D, ⟨es, clock, (hb.block b hlt).trans h1, F, h2, h3⟩, r⟩
theorem Cnt.look (h : Cnt w b nn ids raw) {s : ByteArray} (hs : s.size ≤ maxLen) : (Instr.lookup 201 (.map (some b)) (.string s) false).run Tryz.prog w = .ok (vecV (raw s)) w := by
  obtain ⟨D, ho, ha, _⟩ := h
  obtain ⟨v, ps, hrun, hv⟩ := ho.lookup lawS Tryz.underlying201 (zeroVec w) rfl (keyL_of hs)
  rw [ha] at hv
  simp only [heldR, Option.some.injEq, Prod.mk.injEq, DataW.held.injEq] at hv
  rw [hrun, hv.1]
theorem Cnt.put (h : Cnt w b nn ids raw) {s : ByteArray} (hs : s.size ≤ maxLen) (hn : nn < maxLen) (A : Nat → Int) : ∃ w', (Instr.mapUpdate 201 (.map (some b)) (.string s) (vecV A)).run Tryz.prog w = .ok () w' ∧
    Cnt w' b (nn + 1) (ids ++ [s]) (fun x => if x = s then A else raw x) ∧ w.grownBy w' (some b) := by
  obtain ⟨D, ho, ha, hh⟩ := h
  obtain ⟨w', hrun, h1, h2⟩ := ho.update lawS Tryz.underlying201 hn (val := vecV A) (keyL_of hs) rfl
  have hI := ho.isMap
  refine ⟨w', hrun, ⟨_, h1, fun x => ?_, fun x => ?_⟩, h2⟩
  · by_cases e : x = s
    · subst e
      rw [atKey_put_same hI (by exact trivial)]
      simp
    · rw [atKey_put_other (fun e' => e (keyL_inj e')), ha x]
      simp [e]
  · by_cases e : x = s
    · subst e
      rw [has_put_same hI (by exact trivial)]; simp
    · rw [has_put_other (fun e' => e (keyL_inj e')), hh x]; simp [e]
end
/-! ### Places by counts -/
def pcEs : Nat → List (Nat → Int) → List MapEntry
  | _, [] => []
  | i, A :: l => ⟨vecV A, .int .i64 (i : Int), i⟩ :: pcEs (i + 1) l
theorem pcEs_app (l m : List (Nat → Int)) : ∀ i, pcEs i (l ++ m) = pcEs i l ++ pcEs (i + l.length) m := by
  induction l with
  | nil => intro i; simp [pcEs]
  | cons a l ih => intro i; simp only [List.cons_append, pcEs, ih, List.length_cons]; rw [show i + 1 + l.length = i + (l.length + 1) by omega]
def Pcs (w : World) (b : Nat) (vs : List (Nat → Int)) : Prop := w.heap[b]? = some (.map (pcEs 0 vs).toArray vs.length)
theorem eqV_symm (A B : Nat → Int) : eqV A B = eqV B A := by
  cases h : eqV A B with
  | true => exact (eqV_iff.2 fun k hk => (eqV_iff.1 h k hk).symm).symm
  | false =>
    cases h' : eqV B A with
    | false => rfl
    | true => rw [eqV_iff.2 fun k hk => (eqV_iff.1 h' k hk).symm] at h; cases h
theorem equal7 (A B : Nat → Int) (w : World) : (Op.equal 28 (vecV A) (vecV B)).run Tryz.prog w = .ok (eqV A B) w := eqVec7 A B w
set_option maxHeartbeats 2000000 in
theorem check7 (em : Bool) (A : Nat → Int) (w : World) : (Instr.checkKey em 10000 28 (vecV A)).run Tryz.prog w = .ok () w := by
  have ju := Tryz.underlying3
  have ja := Tryz.isAgg3
  have jz := Tryz.sizeOf3
  rw [show (10000 : Nat) = 9999 + 1 from rfl, Instr.checkKey]
  simp only [Sem.run_bind, run_underlying Tryz.underlying28, Result.andThen_ok]
  have hk : ∀ n x w', (Instr.checkKey em (n + 1) 3 (.int .i64 x)).run Tryz.prog w' = .ok () w' := fun n x w' => MapKept.run_checkKey ju (by first | exact rfl | simp [MapKept.IsKey]) em n
  simp only [Std.Legacy.Range.forIn_eq_forIn_range', Std.Legacy.Range.size, Nat.sub_zero, Nat.add_sub_cancel, Nat.div_one, List.range'_succ, List.range'_zero, List.forIn_cons, List.forIn_nil]
  rw [show (9999 : Nat) = 9998 + 1 from rfl]
  go_simp
theorem ask_miss (A : Nat → Int) : ∀ (vs : List (Nat → Int)) (i j : Nat) (w : World), (∀ B ∈ vs, eqV B A = false) → (Instr.findAsking 28 (vecV A) (pcEs i vs) j).run Tryz.prog w = .ok none w
  | [], i, j, w, _ => by simp [pcEs, Instr.findAsking]
  | B :: vs, i, j, w, h => by
    have e := equal7 A B w
    rw [eqV_symm, h B (by simp)] at e
    simp only [pcEs, Instr.findAsking, Sem.run_bind, e, Result.andThen_ok]
    exact ask_miss A vs (i + 1) (j + 1) w fun C hC => h C (by simp [hC])
theorem ask_hit (A : Nat → Int) : ∀ (vs : List (Nat → Int)) (i j a : Nat) (w : World), (∀ k B, k < a → vs[k]? = some B → eqV B A = false) → (∃ B, vs[a]? = some B ∧ eqV B A = true) → (Instr.findAsking 28 (vecV A) (pcEs i vs) j).run Tryz.prog w = .ok (some (j + a, .int .i64 ((i + a : Nat) : Int))) w
  | [], i, j, a, w, _, h => by obtain ⟨B, h, _⟩ := h; simp at h
  | C :: vs, i, j, 0, w, _, h => by
    obtain ⟨B, hB, hq⟩ := h
    simp at hB; subst hB
    have e := equal7 A C w
    rw [eqV_symm, hq] at e
    simp [pcEs, Instr.findAsking, Sem.run_bind, e, Result.andThen_ok]
  | C :: vs, i, j, a + 1, w, hn, h => by
    have e := equal7 A C w
    rw [eqV_symm, hn 0 C (by omega) rfl] at e
    simp only [pcEs, Instr.findAsking, Sem.run_bind, e, Result.andThen_ok]
    have := ask_hit A vs (i + 1) (j + 1) a w (fun k B hk hB => hn (k + 1) B (by omega) (by simpa using hB)) (by obtain ⟨B, hB, hq⟩ := h; exact ⟨B, by simpa using hB, hq⟩)
    rw [show i + 1 + a = i + (a + 1) by omega, show j + 1 + a = j + (a + 1) by omega] at this
    exact this
theorem find7 (A : Nat → Int) (vs : List (Nat → Int)) (i : Nat) (w : World) {r : Option (Nat × Value)} (h : (Instr.findAsking 28 (vecV A) (pcEs i vs) 0).run Tryz.prog w = .ok r w) : (Instr.findKey 28 (vecV A) (pcEs i vs)).run Tryz.prog w = .ok r w := by
  unfold Instr.findKey
  simp only [Sem.run_bind, run_underlying Tryz.underlying28, Result.andThen_ok]
  cases vs with
  | nil => simp [pcEs, Instr.findNow, Instr.findAsking] at *; exact h
  | cons B vs => simp only [pcEs, Instr.findNow, Instr.sameNow] at *; exact h
section
variable {w w' : World} {b : Nat} {vs : List (Nat → Int)}
theorem Pcs.made (w : World) : Pcs (w.alloc (.map #[] 0)) w.heap.size [] := (MapKept.heap_alloc w _).1
theorem Pcs.lt (h : Pcs w b vs) : b < w.heap.size := (Array.getElem?_eq_some_iff.1 h).1
theorem Pcs.later (h : Pcs w b vs) (hb : Below w.heap.size w w') : Pcs w' b vs := (hb.block b h.lt).trans h
theorem zeroI (w : World) : (zeroValue 3).run Tryz.prog w = .ok (.int .i64 0) w := by kernel_rfl
theorem Pcs.miss (h : Pcs w b vs) {A : Nat → Int} (hn : ∀ B ∈ vs, eqV B A = false) : (Instr.lookup 203 (.map (some b)) (vecV A) true).run Tryz.prog w = .ok (.tuple #[.int .i64 0, .bool false]) w := by
  simp [Instr.lookup, run_underlying Tryz.underlying203, MapKept.run_getObj_map h, check7, find7 A vs 0 w (ask_miss A vs 0 0 w hn), zeroI, Result.andThen]
theorem Pcs.hit (h : Pcs w b vs) {A : Nat → Int} {a : Nat} (hn : ∀ k B, k < a → vs[k]? = some B → eqV B A = false) (hi : ∃ B, vs[a]? = some B ∧ eqV B A = true) : (Instr.lookup 203 (.map (some b)) (vecV A) true).run Tryz.prog w = .ok (.tuple #[.int .i64 a, .bool true]) w := by
  have e := ask_hit A vs 0 0 a w hn hi
  simp only [Nat.zero_add] at e
  simp [Instr.lookup, run_underlying Tryz.underlying203, MapKept.run_getObj_map h, check7, find7 A vs 0 w e, Result.andThen]
theorem Pcs.put (h : Pcs w b vs) {A : Nat → Int} (hn : ∀ B ∈ vs, eqV B A = false) : ∃ w', (Instr.mapUpdate 203 (.map (some b)) (vecV A) (.int .i64 (vs.length : Int))).run Tryz.prog w = .ok () w' ∧ Pcs w' b (vs ++ [A]) ∧ w.grownBy w' (some b) := by
  refine ⟨ChangeMaps.setBlock w b (.map ((pcEs 0 vs).toArray.push ⟨vecV A, .int .i64 (vs.length : Int), vs.length⟩) (vs.length + 1)), ?_, ?_, ⟨rfl, rfl, rfl, by simp [ChangeMaps.setBlock], fun i _ hi => ChangeMaps.heap_setBlock_other h _ (fun e => hi (by rw [e]))⟩⟩
  · simp [Instr.mapUpdate, run_underlying Tryz.underlying203, MapKept.run_getObj_map h, check7, find7 A vs 0 w (ask_miss A vs 0 0 w hn), MapKept.run_setObj_map _ h, Result.andThen, ChangeMaps.setBlock]
  · unfold Pcs
    rw [ChangeMaps.heap_setBlock_same h]
    rw [pcEs_app]
    simp [pcEs]
end
end Go.Proofs.YthbjgfennclidaaGreat
/- What follows of what is seen: plain mathematics. No walk. -/
namespace Go.Proofs.YthbjgfennclidaaGreat
set_option linter.unusedVariables false
set_option linter.unusedSimpArgs false
set_option maxRecDepth 100000
namespace Pr
abbrev starP : Pr := .node 1 ⟨#[]⟩ 0 0 0 []
end Pr
end Go.Proofs.YthbjgfennclidaaGreat
/- HasPrefix: the library's walks. -/
namespace Go.Proofs.YthbjgfennclidaaGreat
set_option linter.unusedVariables false
set_option linter.unusedSimpArgs false
set_option maxRecDepth 100000
open Go.RowKit
/-! ### HasPrefix -/
theorem beg_false {s t : ByteArray} (h : s.size < t.size) : begB s t = false := by
  unfold begB
  cases h1 : t.data.toList.isPrefixOf s.data.toList with
  | false => rfl
  | true =>
    have h3 := (List.isPrefixOf_iff_prefix.1 h1).length_le
    have e1 : t.data.toList.length = t.size := by simp
    have e2 : s.data.toList.length = s.size := by simp
    omega
theorem beg_take {s t : ByteArray} (h : t.size ≤ s.size) : begB s t = (s.data.toList.take t.size == t.data.toList) := by
  unfold begB
  rw [Bool.eq_iff_iff, List.isPrefixOf_iff_prefix, beq_iff_eq, List.prefix_iff_eq_take]
  have e1 : t.data.toList.length = t.size := by simp
  rw [e1]
  exact eq_comm
set_option maxHeartbeats 1000000 in
theorem prefix1_calls (s t : ByteArray) (w : World) (hs : s.size ≤ maxLen) (ht : t.size ≤ maxLen) :
    Calls Tryz.prog 203 #[.string s, .string t] w fun e w' => e = .returned (.bool (begB s t)) ∧ w = w' := by
  unfold maxLen at hs ht
  by_cases h : t.size ≤ s.size
  · have E := Lib.hid (beg_take h)
    have h1 : (t.size : Int) ≤ (s.size : Int) := by omega
    go_enter Tryz.func203, Tryz.ntmps203
    go_wp2_with fail
    go_ret
    refine ⟨ret_bool ?_, rfl⟩
    rw [E.out]
    rw [ByteArray.toList_eq, ByteArray.toList_eq]
    simp [ByteArray.data_extract]
  · have E := Lib.hid (beg_false (s := s) (t := t) (by omega))
    have h1 : (s.size : Int) < (t.size : Int) := by omega
    go_enter Tryz.func203, Tryz.ntmps203
    go_wp2_with fail
    go_ret
    exact ⟨ret_bool E.out.symm, rfl⟩
theorem prefix_calls (s t : ByteArray) (w : World) (hs : s.size ≤ maxLen) (ht : t.size ≤ maxLen) :
    Calls Tryz.prog 166 #[.string s, .string t] w fun e w' => e = .returned (.bool (begB s t)) ∧ w = w' := by
  have H := Lib.hid (prefix1_calls s t w hs ht)
  go_enter Tryz.func166, Tryz.ntmps166
  go_wp2_with (go_at_call 203; refine (H.out).mono ?_; rintro e w' ⟨rfl, rfl⟩)
  go_ret
  exact ⟨rfl, rfl⟩
end Go.Proofs.YthbjgfennclidaaGreat
/- Counts above others: the code's own, walked. -/
namespace Go.Proofs.YthbjgfennclidaaGreat
set_option linter.unusedVariables false
set_option linter.unusedSimpArgs false
set_option maxRecDepth 100000
open Go.RowKit
def bzV (V A : Nat → Int) (j : Nat) : Int := if V j ≤ A j then 0 else V j
def bz8 (V A : Nat → Int) (k : Nat) (j : Nat) : Int := if j < k then bzV V A j else V j
theorem bz8_zero (V A : Nat → Int) : arr8 V = arr8 (bz8 V A 0) := arr_congr fun j _ => by unfold bz8; rw [if_neg (by omega)]
theorem bz8_whole (V A : Nat → Int) : arr8 (bz8 V A 8) = arr8 (bzV V A) := arr_congr fun j h => by unfold bz8; rw [if_pos h]
theorem bz8_put (V A : Nat → Int) {k : Nat} {v : Int} (hv : v = bzV V A k) : arr8 (fun j => if j = k then v else bz8 V A k j) = arr8 (bz8 V A (k + 1)) := arr_congr fun j _ => by
  unfold bz8
  by_cases e : j = k
  · subst e; rw [if_pos rfl, if_pos (by omega)]; exact hv
  · rw [if_neg e]
    by_cases h : j < k
    · rw [if_pos h, if_pos (by omega)]
    · rw [if_neg h, if_neg (by omega)]
theorem bz8_stay (V A : Nat → Int) {k : Nat} (hv : V k = bzV V A k) : arr8 (bz8 V A k) = arr8 (bz8 V A (k + 1)) := arr_congr fun j _ => by
  unfold bz8
  by_cases e : j = k
  · subst e; rw [if_neg (by omega), if_pos (by omega)]; exact hv
  · by_cases h : j < k
    · rw [if_pos h, if_pos (by omega)]
    · rw [if_neg h, if_neg (by omega)]
structure BZ (V A : Nat → Int) (k : Nat) (w wr : World) : Prop where
  o1 : Own wr w.heap.size (arr8 (bz8 V A k)) 28
  o3 : Own wr (w.heap.size + 1 + 1) (arr8 fun _ => 0) 28
  bel : Below w.heap.size w wr
def BZRel (V A : Nat → Int) (w : World) (i : Value) (wr : World) : Prop := ∃ k : Nat, k ≤ 8 ∧ i = .int .i64 k ∧ Hid (BZ V A k w wr)
set_option maxRecDepth 100000 in
set_option maxHeartbeats 4000000 in
theorem codeBeyond_calls (V A : Nat → Int) (w : World) :
    Calls Tryz.prog 157 #[vecV V, vecV A] w fun e w' => e = .returned (vecV (bzV V A)) ∧ Below w.heap.size w w' := by
  have I0 : BZ V A 0 w (((w.alloc (.cells (arr8 V) 28)).alloc (.cells (arr8 A) 28)).alloc (.cells (arr8 fun _ => 0) 28)) :=
    ⟨by rw [← bz8_zero]; exact ((Own.new w _ _).alloc _).alloc _, Own.newAt _ _ _ (by simp), (((Below.refl _ _).alloc (Nat.le_refl _) _).alloc (by simp) _).alloc (by simp; omega) _⟩
  have HI0 := Lib.hid I0
  clear I0
  go_enter Tryz.func157, Tryz.ntmps157
  go_wp2_with fail
  go_loopw [8] (fun i wr => BZRel V A w i wr) (fun i _ => 8 - (intOf i).toNat)
  case atStart => exact ⟨0, by omega, rfl, HI0⟩
  case round =>
    clear HI0
    obtain ⟨k, hk, rfl, HP⟩ := hrel
    by_cases hlt : k < 8
    · have ix := fun w => idx8 A hlt w
      have ca := (HP.out.o1.cell k).trans (arr_get (bz8 V A k) hlt)
      rw [show bz8 V A k k = V k by unfold bz8; rw [if_neg (by omega)]] at ca
      have fa := HP.out.o1.free k
      have z1 := HP.out.o1.lt
      have k0 : (0 : Int) ≤ (k : Int) := by omega
      have k1 : (k : Int) < 8 := by omega
      by_cases h : V k ≤ A k
      · have g : decide (V k ≤ A k) = true := decide_eq_true h
        have HR : Hid (BZ V A (k + 1) w (wr.setCell ⟨w.heap.size, k, none⟩ (.int .i64 0))) := Lib.hid (by
          refine ⟨?_, HP.out.o3.setFar _ _ (by show w.heap.size + 1 + 1 ≠ w.heap.size; omega), HP.out.bel.setCell (p := ⟨w.heap.size, k, none⟩) (Nat.le_refl _) _⟩
          rw [← bz8_put V A (v := 0) (by unfold bzV; rw [if_pos h]), ← arr_set _ hlt]
          exact HP.out.o1.set k _)
        go_wp2_with fail
        go_roundw
        case rel => exact ⟨k + 1, by omega, by go_num, HR⟩
        case measure => simp [intOf]; omega
      · have g : decide (V k ≤ A k) = false := decide_eq_false h
        have HR : Hid (BZ V A (k + 1) w wr) := Lib.hid ⟨by rw [← bz8_stay V A (by unfold bzV; rw [if_neg h])]; exact HP.out.o1, HP.out.o3, HP.out.bel⟩
        go_wp2_with fail
        go_roundw
        case rel => exact ⟨k + 1, by omega, by go_num, HR⟩
        case measure => simp [intOf]; omega
    · have e : k = 8 := by omega
      subst e
      have o1 := HP.out.o1
      rw [bz8_whole] at o1
      have l3 := HP.out.o3.cell
      have f3 := HP.out.o3.free
      have z3 := HP.out.o3.lt
      have l4 := o1.cell
      have z4 := o1.lt
      have BEL := Lib.hid HP.out.bel
      go_wp2_with fail
      have key := And.intro (st8_own HP.out.o3 (.int .i64 ((bzV V A) 0)) (.int .i64 ((bzV V A) 1)) (.int .i64 ((bzV V A) 2)) (.int .i64 ((bzV V A) 3)) (.int .i64 ((bzV V A) 4)) (.int .i64 ((bzV V A) 5)) (.int .i64 ((bzV V A) 6)) (.int .i64 ((bzV V A) 7))) (st8_below (b := w.heap.size + 1 + 1) BEL.out (by omega) (.int .i64 ((bzV V A) 0)) (.int .i64 ((bzV V A) 1)) (.int .i64 ((bzV V A) 2)) (.int .i64 ((bzV V A) 3)) (.int .i64 ((bzV V A) 4)) (.int .i64 ((bzV V A) 5)) (.int .i64 ((bzV V A) 6)) (.int .i64 ((bzV V A) 7)))
      clear l3 f3 z3 l4 z4
      unfold st8 at key
      revert key
      generalize World.setCell (World.setCell (World.setCell (World.setCell (World.setCell (World.setCell (World.setCell (World.setCell _ _ _) _ _) _ _) _ _) _ _) _ _) _ _) _ _ = WW
      rintro ⟨of, bf⟩
      have lf := of.cell
      refine bodyPost_ret (v := vecV ((bzV V A))) (by simp [results, Tryz.results157, go_sem, lf]) rfl ⟨rfl, bf⟩
end Go.Proofs.YthbjgfennclidaaGreat
