/- The maps of the code's Plain: counts by Ids, places by counts. No walk. -/
import Derived.Test.YthhbjgecdhogoaaVecL
import Derived.Test.YthhbjgecdhogoaaKnowW
import Derived.Maps.OwnSet
namespace Go.Proofs.Ythhbjgecdhogoaa
set_option linter.unusedVariables false
set_option linter.unusedSimpArgs false
open Go.RowKit Go.Maps

/-! ### Counts by Ids -/
abbrev heldR (v : Value) : Option (DataW Value × List MemPlace) := some (.held v, [])
abbrev keyL (s : ByteArray) : Lit := .string s.data.toList
theorem keyL_inj {s t : ByteArray} (h : keyL s = keyL t) : s = t := by
  simp only [keyL, Lit.string.injEq] at h
  cases s; cases t; simp at h; subst h; rfl
theorem keyL_of {s : ByteArray} (h : s.size ≤ maxLen) : keyOf Try.prog 9 (.string s) = some (keyL s) := by
  simp [keyOf, mapKey, Try.underlying9, h]
theorem lawS : Keyed Try.prog 9 := string_keyed Try.underlying9
theorem zeroVec (w : World) : (zeroValue 23).run Try.prog w = .ok (vecV zeroV) w := by kernel_rfl
/-- Block b is a map that has those Ids, and of each those counts; 0 of others. -/
def Cnt (w : World) (b nn : Nat) (ids : List ByteArray) (raw : ByteArray → Nat → Int) : Prop :=
  ∃ D : DataW Value, w.ownsMap Try.prog 9 heldR b nn D ∧ (∀ s, D.atKey (keyL s) (.held (vecV zeroV)) = .held (vecV (raw s))) ∧ (∀ s, Maps.has D (keyL s) = true ↔ s ∈ ids)
section
variable {w w' : World} {b nn : Nat} {ids : List ByteArray} {raw : ByteArray → Nat → Int}
theorem Cnt.made (w : World) : Cnt (w.alloc (.map #[] 0)) w.heap.size 0 [] (fun _ => zeroV) :=
  ⟨.map [], World.ownsMap_made _ _ _ _, fun s => by simp [DataW.atKey], fun s => by simp [Maps.has]⟩
theorem Cnt.lt (h : Cnt w b nn ids raw) : b < w.heap.size := by
  obtain ⟨D, h, _⟩ := h
  exact h.lt
theorem Cnt.later (h : Cnt w b nn ids raw) (hb : Below w.heap.size w w') : Cnt w' b nn ids raw := by
  have hlt := h.lt
  obtain ⟨D, ⟨es, clock, h1, F, h2, h3⟩, r⟩ := h
  exact ⟨D, ⟨es, clock, (hb.block b hlt).trans h1, F, h2, h3⟩, r⟩
theorem Cnt.look (h : Cnt w b nn ids raw) {s : ByteArray} (hs : s.size ≤ maxLen) : (Instr.lookup 41 (.map (some b)) (.string s) false).run Try.prog w = .ok (vecV (raw s)) w := by
  obtain ⟨D, ho, ha, _⟩ := h
  obtain ⟨v, ps, hrun, hv⟩ := ho.lookup lawS Try.underlying41 (zeroVec w) rfl (keyL_of hs)
  rw [ha] at hv
  simp only [heldR, Option.some.injEq, Prod.mk.injEq, DataW.held.injEq] at hv
  rw [hrun, hv.1]
theorem Cnt.put (h : Cnt w b nn ids raw) {s : ByteArray} (hs : s.size ≤ maxLen) (hn : nn < maxLen) (A : Nat → Int) : ∃ w', (Instr.mapUpdate 41 (.map (some b)) (.string s) (vecV A)).run Try.prog w = .ok () w' ∧
    Cnt w' b (nn + 1) (ids ++ [s]) (fun x => if x = s then A else raw x) ∧ w.grownBy w' (some b) := by
  obtain ⟨D, ho, ha, hh⟩ := h
  obtain ⟨w', hrun, h1, h2⟩ := ho.update lawS Try.underlying41 hn (val := vecV A) (keyL_of hs) rfl
  have hI := ho.isMap
  refine ⟨w', hrun, ⟨_, h1, fun x => ?_, fun x => ?_⟩, h2⟩
  · by_cases e : x = s
    · subst e
      rw [atKey_put_same hI (by exact trivial)]
      simp
    · rw [atKey_put_other (fun e' => e (keyL_inj e')), ha x]
      simp [e]
  · by_cases e : x = s
    · subst e
      rw [has_put_same hI (by exact trivial)]; simp
    · rw [has_put_other (fun e' => e (keyL_inj e')), hh x]; simp [e]
end

/-! ### Places by counts -/
def pcEs : Nat → List (Nat → Int) → List MapEntry
  | _, [] => []
  | i, A :: l => ⟨vecV A, .int .i64 (i : Int), i⟩ :: pcEs (i + 1) l
theorem pcEs_app (l m : List (Nat → Int)) : ∀ i, pcEs i (l ++ m) = pcEs i l ++ pcEs (i + l.length) m := by
  induction l with
  | nil => intro i; simp [pcEs]
  | cons a l ih => intro i; simp only [List.cons_append, pcEs, ih, List.length_cons]; rw [show i + 1 + l.length = i + (l.length + 1) by omega]
/-- Block b is a map that has those counts, each with its place. -/
def Pcs (w : World) (b : Nat) (vs : List (Nat → Int)) : Prop := w.heap[b]? = some (.map (pcEs 0 vs).toArray vs.length)
theorem eqV_symm (A B : Nat → Int) : eqV A B = eqV B A := by
  cases h : eqV A B with
  | true => exact (eqV_iff.2 fun k hk => (eqV_iff.1 h k hk).symm).symm
  | false =>
    cases h' : eqV B A with
    | false => rfl
    | true => rw [eqV_iff.2 fun k hk => (eqV_iff.1 h' k hk).symm] at h; cases h
theorem equal7 (A B : Nat → Int) (w : World) : (Op.equal 23 (vecV A) (vecV B)).run Try.prog w = .ok (eqV A B) w := eqVec7 A B w
set_option maxHeartbeats 2000000 in
theorem check7 (em : Bool) (A : Nat → Int) (w : World) : (Instr.checkKey em 10000 23 (vecV A)).run Try.prog w = .ok () w := by
  have ju := Try.underlying3
  have ja := Try.isAgg3
  have jz := Try.sizeOf3
  rw [show (10000 : Nat) = 9999 + 1 from rfl, Instr.checkKey]
  simp only [Sem.run_bind, run_underlying Try.underlying23, Result.andThen_ok]
  have hk : ∀ n x w', (Instr.checkKey em (n + 1) 3 (.int .i64 x)).run Try.prog w' = .ok () w' := fun n x w' => MapKept.run_checkKey ju (by first | exact rfl | simp [MapKept.IsKey]) em n
  simp only [Std.Legacy.Range.forIn_eq_forIn_range', Std.Legacy.Range.size, Nat.sub_zero, Nat.add_sub_cancel, Nat.div_one, List.range'_succ, List.range'_zero, List.forIn_cons, List.forIn_nil]
  rw [show (9999 : Nat) = 9998 + 1 from rfl]
  go_simp
theorem ask_miss (A : Nat → Int) : ∀ (vs : List (Nat → Int)) (i j : Nat) (w : World), (∀ B ∈ vs, eqV B A = false) → (Instr.findAsking 23 (vecV A) (pcEs i vs) j).run Try.prog w = .ok none w
  | [], i, j, w, _ => by simp [pcEs, Instr.findAsking]
  | B :: vs, i, j, w, h => by
    have e := equal7 A B w
    rw [eqV_symm, h B (by simp)] at e
    simp only [pcEs, Instr.findAsking, Sem.run_bind, e, Result.andThen_ok]
    exact ask_miss A vs (i + 1) (j + 1) w fun C hC => h C (by simp [hC])
theorem ask_hit (A : Nat → Int) : ∀ (vs : List (Nat → Int)) (i j a : Nat) (w : World), (∀ k B, k < a → vs[k]? = some B → eqV B A = false) → (∃ B, vs[a]? = some B ∧ eqV B A = true) → (Instr.findAsking 23 (vecV A) (pcEs i vs) j).run Try.prog w = .ok (some (j + a, .int .i64 ((i + a : Nat) : Int))) w
  | [], i, j, a, w, _, h => by obtain ⟨B, h, _⟩ := h; simp at h
  | C :: vs, i, j, 0, w, _, h => by
    obtain ⟨B, hB, hq⟩ := h
    simp at hB; subst hB
    have e := equal7 A C w
    rw [eqV_symm, hq] at e
    simp [pcEs, Instr.findAsking, Sem.run_bind, e, Result.andThen_ok]
  | C :: vs, i, j, a + 1, w, hn, h => by
    have e := equal7 A C w
    rw [eqV_symm, hn 0 C (by omega) rfl] at e
    simp only [pcEs, Instr.findAsking, Sem.run_bind, e, Result.andThen_ok]
    have := ask_hit A vs (i + 1) (j + 1) a w (fun k B hk hB => hn (k + 1) B (by omega) (by simpa using hB)) (by obtain ⟨B, hB, hq⟩ := h; exact ⟨B, by simpa using hB, hq⟩)
    rw [show i + 1 + a = i + (a + 1) by omega, show j + 1 + a = j + (a + 1) by omega] at this
    exact this
theorem find7 (A : Nat → Int) (vs : List (Nat → Int)) (i : Nat) (w : World) {r : Option (Nat × Value)} (h : (Instr.findAsking 23 (vecV A) (pcEs i vs) 0).run Try.prog w = .ok r w) : (Instr.findKey 23 (vecV A) (pcEs i vs)).run Try.prog w = .ok r w := by
  unfold Instr.findKey
  simp only [Sem.run_bind, run_underlying Try.underlying23, Result.andThen_ok]
  cases vs with
  | nil => simp [pcEs, Instr.findNow, Instr.findAsking] at *; exact h
  | cons B vs => simp only [pcEs, Instr.findNow, Instr.sameNow] at *; exact h
section
variable {w w' : World} {b : Nat} {vs : List (Nat → Int)}
theorem Pcs.made (w : World) : Pcs (w.alloc (.map #[] 0)) w.heap.size [] := (MapKept.heap_alloc w _).1
theorem Pcs.lt (h : Pcs w b vs) : b < w.heap.size := (Array.getElem?_eq_some_iff.1 h).1
theorem Pcs.later (h : Pcs w b vs) (hb : Below w.heap.size w w') : Pcs w' b vs := (hb.block b h.lt).trans h
theorem zeroI (w : World) : (zeroValue 3).run Try.prog w = .ok (.int .i64 0) w := by kernel_rfl
theorem Pcs.miss (h : Pcs w b vs) {A : Nat → Int} (hn : ∀ B ∈ vs, eqV B A = false) : (Instr.lookup 43 (.map (some b)) (vecV A) true).run Try.prog w = .ok (.tuple #[.int .i64 0, .bool false]) w := by
  simp [Instr.lookup, run_underlying Try.underlying43, MapKept.run_getObj_map h, check7, find7 A vs 0 w (ask_miss A vs 0 0 w hn), zeroI, Result.andThen]
theorem Pcs.hit (h : Pcs w b vs) {A : Nat → Int} {a : Nat} (hn : ∀ k B, k < a → vs[k]? = some B → eqV B A = false) (hi : ∃ B, vs[a]? = some B ∧ eqV B A = true) : (Instr.lookup 43 (.map (some b)) (vecV A) true).run Try.prog w = .ok (.tuple #[.int .i64 a, .bool true]) w := by
  have e := ask_hit A vs 0 0 a w hn hi
  simp only [Nat.zero_add] at e
  simp [Instr.lookup, run_underlying Try.underlying43, MapKept.run_getObj_map h, check7, find7 A vs 0 w e, Result.andThen]
theorem Pcs.put (h : Pcs w b vs) {A : Nat → Int} (hn : ∀ B ∈ vs, eqV B A = false) : ∃ w', (Instr.mapUpdate 43 (.map (some b)) (vecV A) (.int .i64 (vs.length : Int))).run Try.prog w = .ok () w' ∧ Pcs w' b (vs ++ [A]) ∧ w.grownBy w' (some b) := by
  refine ⟨ChangeMaps.setBlock w b (.map ((pcEs 0 vs).toArray.push ⟨vecV A, .int .i64 (vs.length : Int), vs.length⟩) (vs.length + 1)), ?_, ?_, ⟨rfl, rfl, rfl, by simp [ChangeMaps.setBlock], fun i _ hi => ChangeMaps.heap_setBlock_other h _ (fun e => hi (by rw [e]))⟩⟩
  · simp [Instr.mapUpdate, run_underlying Try.underlying43, MapKept.run_getObj_map h, check7, find7 A vs 0 w (ask_miss A vs 0 0 w hn), MapKept.run_setObj_map _ h, Result.andThen, ChangeMaps.setBlock]
  · unfold Pcs
    rw [ChangeMaps.heap_setBlock_same h]
    rw [pcEs_app]
    simp [pcEs]
end

end Go.Proofs.Ythhbjgecdhogoaa
