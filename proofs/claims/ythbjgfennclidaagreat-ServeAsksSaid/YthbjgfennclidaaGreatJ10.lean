/- Joined: RegN, RefAlike, ListW, HasM, Lies. -/
import Derived.Test.YthbjgfennclidaaGreatJ07
import Derived.Test.YthbjgfennclidaaGreatJ08
import Derived.Test.YthbjgfennclidaaGreatJ01
import Derived.Deep.MidRow
import Derived.Deep.CutBlock
import Derived.Deep.DeepCutAuto
import Derived.Test.YthbjgfennclidaaGreatJ09
/- Drawn regions in one order: what no operation turns may be taken first wherever it was made; what late operations (D) store into the blocks T may be taken ahead of them. No walk. -/
namespace Go.Proofs.YthbjgfennclidaaGreat
set_option linter.unusedVariables false
set_option linter.unusedSimpArgs false
set_option maxRecDepth 100000
open Go Go.RowKit
structure But (T : Nat → Prop) (w w' : World) : Prop where
  size : w.heap.size ≤ w'.heap.size
  blk : ∀ b, b < w.heap.size → ¬ T b → w'.heap[b]? = w.heap[b]?
section
variable {T : Nat → Prop} {w w' w'' : World}
theorem But.refl (w : World) : But T w w := ⟨Nat.le_refl _, fun _ _ _ => rfl⟩
theorem But.trans (h : But T w w') (k : But T w' w'') : But T w w'' := ⟨Nat.le_trans h.size k.size, fun b hb ht => (k.blk b (Nat.lt_of_lt_of_le hb h.size) ht).trans (h.blk b hb ht)⟩
theorem But.of (h : Later w w') : But T w w' := ⟨h.size, fun b hb _ => h.block b hb⟩
theorem But.mono' {T' : Nat → Prop} (h : But T' w w') (hT : ∀ b, T' b → T b) : But T w w' := ⟨h.size, fun b hb ht => h.blk b hb fun h' => ht (hT b h')⟩
theorem But.set {b o : Nat} (hT : T b) (v : Value) : But T w (w.setCell ⟨b, o, none⟩ v) := ⟨by simp [World.setCell], fun k _ hk => Below.heap_setCell _ _ _ _ (fun e => hk (by subst e; exact hT))⟩
theorem But.sets {b : Nat} (hT : T b) (vs : List Value) : ∀ {w : World} (o : Nat), But T w (w.setCells b o vs) := by
  induction vs with
  | nil => intro w o; exact But.refl _
  | cons u r ih => intro w o; exact (But.set hT u).trans (ih (o + 1))
theorem Own.but {b : Nat} {c : Array Value} {t : TypeId} (h : Own w b c t) (hb : But T w w') (hT : ¬ T b) : Own w' b c t := ⟨by rw [hb.blk b h.lt hT]; exact h.blk⟩
end
theorem below_setsN {b B : Nat} {a : World} (hB : B ≤ b) (vs : List Value) : ∀ {w : World} (o : Nat), Below B a w → Below B a (w.setCells b o vs) := by
  induction vs with
  | nil => intro w o h; exact h
  | cons v r ih => intro w o h; exact ih (o + 1) (h.setCell hB v)
def setArrN (c : Array Value) (o : Nat) : List Value → Array Value
  | [] => c
  | v :: r => setArrN (c.setIfInBounds o v) (o + 1) r
theorem setArrN_size (vs : List Value) : ∀ (c : Array Value) (o : Nat), (setArrN c o vs).size = c.size := by
  induction vs with
  | nil => intro c o; rfl
  | cons v r ih => intro c o; rw [setArrN, ih]; simp
theorem setArrN_get (vs : List Value) : ∀ (c : Array Value) (o j : Nat), j < c.size → (setArrN c o vs)[j]? = if o ≤ j ∧ j < o + vs.length then vs[j - o]? else c[j]? := by
  induction vs with
  | nil => intro c o j hj; rw [setArrN, if_neg (by simp only [List.length_nil]; omega)]
  | cons v r ih =>
    intro c o j hj
    rw [setArrN, ih _ _ _ (by simpa using hj)]
    by_cases e : j = o
    · subst e
      rw [if_neg (by omega), if_pos (by simp)]
      simp [hj]
    · by_cases h : o + 1 ≤ j ∧ j < o + 1 + r.length
      · rw [if_pos h, if_pos (by simp only [List.length_cons]; omega)]
        rw [show j - o = (j - (o + 1)) + 1 by omega, List.getElem?_cons_succ]
      · rw [if_neg h, if_neg (by simp only [List.length_cons]; omega)]
        rw [Array.getElem?_setIfInBounds_ne (fun h' => e h'.symm)]
theorem Own.setsFar' {b b' : Nat} {t : TypeId} {c : Array Value} (vs : List Value) : ∀ {w : World} (o : Nat), b' ≠ b → Own w b' c t → Own (w.setCells b o vs) b' c t := by
  induction vs with
  | nil => intro w o _ h; exact h
  | cons v r ih => intro w o hb h; exact ih (o + 1) hb (h.setFar _ _ hb)
theorem setArrN_all (c : Array Value) (vs : List Value) (h : vs.length = c.size) : setArrN c 0 vs = vs.toArray := by
  apply Array.ext_getElem?
  intro j
  by_cases hj : j < c.size
  · rw [setArrN_get vs c 0 j hj, if_pos (by omega)]; simp
  · rw [Array.getElem?_eq_none (by rw [setArrN_size]; omega), Array.getElem?_eq_none (by simp; omega)]
theorem Own.whole {w : World} {b : Nat} {C : Array Value} {vs : List Value} {t : TypeId} (h : Own w b (setArrN C 0 vs) t) (hn : vs.length = C.size) : Own w b vs.toArray t := by rw [← setArrN_all C vs hn]; exact h
theorem own_setsN {b : Nat} {t : TypeId} (vs : List Value) : ∀ {w : World} {c : Array Value} (o : Nat), Own w b c t → Own (w.setCells b o vs) b (setArrN c o vs) t := by
  induction vs with
  | nil => intro w c o h; exact h
  | cons v r ih => intro w c o h; exact ih (o + 1) (h.set o v)
theorem exec_load_mid {P : Program} {o : Oper} {a : Act} {w : World} (ty : TypeId) (x : Operand) (ho : o.op = .load ty x) (b off : Nat) (hx : a.eval x = .pointer (some ⟨b, off, none⟩)) (cs : List Value) (d : TypeDesc) (hc : w.rangeAt b off cs)
    (hu : P.underlying ty = some d) (hd : d.isRow = true) (hi : (P.info? ty).map (·.size) = some cs.length) : (execOp a.eval o).run P w = .ok (.value (.agg cs.toArray)) w := by
  unfold execOp
  simp only [ho, hx, Instr.loadAt, Instr.sureAddr, Sem.run_bind, Sem.run_pure, Result.andThen_ok, run_loadVar_mid w b off ty cs d hc hu hd hi]
section
variable {P : Program} {ops : Array Oper} {Q : Exit → Act → World → Prop} {md : Region.Mode} {T : Nat → Prop} {D : Nat → Bool}
def monoN (P : Program) (md : Region.Mode) (ops : Array Oper) (Q : Exit → Act → World → Prop) (T : Nat → Prop) (D : Nat → Bool) (fuel : Nat) (listed : Array Bool) (a : Act) (w : World) : Prop :=
  match fuel with
  | 0 => Region.ready md ops listed = [] ∧ Q .normal a w
  | n + 1 => (Region.ready md ops listed = [] → Q .normal a w) ∧ ∀ i ∈ Region.ready md ops listed,
      wpOp P ops Q i (fun a' w' => (D i = false → Later w w') ∧ But T w w' ∧ monoN P md ops Q T D n (listed.setIfInBounds i true) a' w') a w
theorem monoN_any : ∀ (n : Nat) {l : Array Bool} {a : Act} {w : World}, monoN P md ops Q T D n l a w → wpAny P md ops Q n l a w := by
  intro n
  induction n with
  | zero => intro l a w h; exact h
  | succ n ih => intro l a w h; exact ⟨h.1, fun i hi => wpOp_mono (fun a' w' hk => ih hk.2.2) (h.2 i hi)⟩
theorem monoN_first {w0 : World} {i : Nat} {oi : Oper} {v : Value} (hi : ops[i]? = some oi) (hsel : ∀ (j : Nat) (o : Oper) cs b, ops[j]? = some o → o.op ≠ .select cs b) (hQ : ∀ c a w, Q (.panic c) (a.put oi.dst v) w → Q (.panic c) a w) (hW : waitB md ops D i = true) :
    ∀ (n : Nat) {l : Array Bool} {a : Act} {w : World}, (∀ j oj, ops[j]? = some oj → j ≠ i → l.getD j true = false → (∀ e ∈ oj.after, Region.binds md e = true → e.on ≠ i) → oi.apart ops oj = true) →
      i ∈ Region.ready md ops l → YieldsIf P ops (Later w0) oi v a → Later w0 w → monoN P md ops Q T D n (l.setIfInBounds i true) (a.put oi.dst v) w → monoN P md ops Q T D (n + 1) l a w := by
  intro n
  induction n with
  | zero =>
    intro l a w _ hr hy hT H
    refine ⟨fun h => (by rw [h] at hr; cases hr), fun j hj => ?_⟩
    rcases Decidable.em (j = i) with e | e
    · subst e; exact hy.wpOp hi hT ⟨fun _ => Below.refl _ _, But.refl _, H⟩
    · have hm := ready_mono hj e
      rw [H.1] at hm; cases hm
  | succ n ih =>
    intro l a w hfree hr hy hT H
    refine ⟨fun h => (by rw [h] at hr; cases hr), fun j hj => ?_⟩
    rcases Decidable.em (j = i) with e | e
    · subst e; exact hy.wpOp hi hT ⟨fun _ => Below.refl _ _, But.refl _, H⟩
    · obtain ⟨hun, oj, hoj, hall⟩ := mem_ready.1 hj
      have hli := (mem_ready.1 hr).1
      have hDj := wait_of hW hj hoj hli
      have hno : ∀ k ∈ oj.after, Region.binds md k = true → k.on ≠ i := by
        intro k hk hb hki
        have h1 := hall k hk hb
        rw [hki] at h1
        rcases Nat.lt_or_ge i l.size with hl | hl
        · simp [hl] at hli h1; rw [hli] at h1; cases h1
        · simp [Array.getElem?_eq_none hl] at hli
      have hstep := wpOp_putIf hoj (hfree j oj hoj e hun hno) (fun cs b => hsel i oi cs b hi) (fun cs b => hsel j oj cs b hoj) hQ hy (H.2 j (ready_mono hj e))
      refine wpOp_mono (fun a' w' hk => ⟨hk.2.1, hk.2.2.1, ih ?_ (ready_mono hr (Ne.symm e)) hk.1 (hT.on (hk.2.1 hDj)) ?_⟩) hstep
      · intro k ok hok hki hku hkno
        refine hfree k ok hok hki ?_ hkno
        rcases Decidable.em (j = k) with ejk | ejk
        · subst ejk; exact hun
        · rw [getD_set_ne true ejk] at hku; exact hku
      · rw [Array.setIfInBounds_comm _ _ e]; exact hk.2.2.2
theorem monoN_first2 {w0 : World} {i : Nat} {oi : Oper} {v : Value} (hi : ops[i]? = some oi) (hsel : ∀ (j : Nat) (o : Oper) cs b, ops[j]? = some o → o.op ≠ .select cs b) (hQ : ∀ c a w, Q (.panic c) (a.put oi.dst v) w → Q (.panic c) a w) :
    ∀ (n : Nat) {l : Array Bool} {a : Act} {w : World}, (∀ j oj, ops[j]? = some oj → j ≠ i → l.getD j true = false → (∀ e ∈ oj.after, Region.binds md e = true → e.on ≠ i) → oi.apart ops oj = true) →
      i ∈ Region.ready md ops l → YieldsIf P ops (But T w0) oi v a → But T w0 w → monoN P md ops Q T D n (l.setIfInBounds i true) (a.put oi.dst v) w → monoN P md ops Q T D (n + 1) l a w := by
  intro n
  induction n with
  | zero =>
    intro l a w _ hr hy hT H
    refine ⟨fun h => (by rw [h] at hr; cases hr), fun j hj => ?_⟩
    rcases Decidable.em (j = i) with e | e
    · subst e; exact hy.wpOp hi hT ⟨fun _ => Below.refl _ _, But.refl _, H⟩
    · have hm := ready_mono hj e
      rw [H.1] at hm; cases hm
  | succ n ih =>
    intro l a w hfree hr hy hT H
    refine ⟨fun h => (by rw [h] at hr; cases hr), fun j hj => ?_⟩
    rcases Decidable.em (j = i) with e | e
    · subst e; exact hy.wpOp hi hT ⟨fun _ => Below.refl _ _, But.refl _, H⟩
    · obtain ⟨hun, oj, hoj, hall⟩ := mem_ready.1 hj
      have hli := (mem_ready.1 hr).1
      have hno : ∀ k ∈ oj.after, Region.binds md k = true → k.on ≠ i := by
        intro k hk hb hki
        have h1 := hall k hk hb
        rw [hki] at h1
        rcases Nat.lt_or_ge i l.size with hl | hl
        · simp [hl] at hli h1; rw [hli] at h1; cases h1
        · simp [Array.getElem?_eq_none hl] at hli
      have hstep := wpOp_putIf hoj (hfree j oj hoj e hun hno) (fun cs b => hsel i oi cs b hi) (fun cs b => hsel j oj cs b hoj) hQ hy (H.2 j (ready_mono hj e))
      refine wpOp_mono (fun a' w' hk => ⟨hk.2.1, hk.2.2.1, ih ?_ (ready_mono hr (Ne.symm e)) hk.1 (hT.trans hk.2.2.1) ?_⟩) hstep
      · intro k ok hok hki hku hkno
        refine hfree k ok hok hki ?_ hkno
        rcases Decidable.em (j = k) with ejk | ejk
        · subst ejk; exact hun
        · rw [getD_set_ne true ejk] at hku; exact hku
      · rw [Array.setIfInBounds_comm _ _ e]; exact hk.2.2.2
theorem monoN_take {i : Nat} {oi : Oper} {v : Value} {n : Nat} {l : Array Bool} {a : Act} {w : World} (hi : ops[i]? = some oi) (hs : Region.noSelect ops = true) (hf : Region.free md ops l i = true) (hr : (Region.ready md ops l).contains i = true) (hW : waitB md ops D i = true)
    (hQ : ∀ c a w, Q (.panic c) (a.put oi.dst v) w → Q (.panic c) a w) (hy : YieldsIf P ops (Later w) oi v a) (h : monoN P md ops Q T D n (l.setIfInBounds i true) (a.put oi.dst v) w) : monoN P md ops Q T D (n + 1) l a w :=
  monoN_first hi (Region.noSelect_spec hs) hQ hW n (Region.free_spec hi hf) (by simpa using hr) hy (Below.refl _ _) h
theorem monoN_stay {i : Nat} {oi : Oper} {v : Value} {n : Nat} {l : Array Bool} {a : Act} {w : World} (hi : ops[i]? = some oi) (hs : Region.noSelect ops = true) (hf : Region.free md ops l i = true) (hr : (Region.ready md ops l).contains i = true)
    (hQ : ∀ c a w, Q (.panic c) (a.put oi.dst v) w → Q (.panic c) a w) (hy : YieldsIf P ops (But T w) oi v a) (h : monoN P md ops Q T D n (l.setIfInBounds i true) (a.put oi.dst v) w) : monoN P md ops Q T D (n + 1) l a w :=
  monoN_first2 hi (Region.noSelect_spec hs) hQ n (Region.free_spec hi hf) (by simpa using hr) hy (But.refl _) h
def stepN (P : Program) (md : Region.Mode) (ops : Array Oper) (Q : Exit → Act → World → Prop) (T : Nat → Prop) (D : Nat → Bool) (i n : Nat) (l : Array Bool) (a : Act) (w : World) : Prop :=
  wpOp P ops Q i (fun a' w' => (D i = false → Later w w') ∧ But T w w' ∧ monoN P md ops Q T D n (l.setIfInBounds i true) a' w') a w
theorem monoN_r1 {i n : Nat} {l : Array Bool} {a : Act} {w : World} (hr : Region.ready md ops l = [i]) (h : stepN P md ops Q T D i n l a w) : monoN P md ops Q T D (n + 1) l a w := by
  refine ⟨fun h0 => (by rw [h0] at hr; cases hr), fun j hj => ?_⟩
  rw [hr] at hj
  have e : j = i := by simpa using hj
  subst e; exact h
theorem stepN_call {i n : Nat} {o : Oper} {l : Array Bool} {a : Act} {w : World} (ho : ops[i]? = some o) (hg : o.guard = none)
    (h : ∀ K : Act → World → Prop, Shut (∀ a w', (D i = false → Later w w') → But T w w' → monoN P md ops Q T D n (l.setIfInBounds i true) a w' → K a w') → Oper.wp P o a w K Q) : stepN P md ops Q T D i n l a w :=
  wpOp_step ho (fun K hK => by rw [if_pos (by simp [Region.wanted, hg])]; exact h K (fun a w h1 h2 h3 => hK a w ⟨h1, h2, h3⟩))
theorem stepN_callG {i n : Nat} {o : Oper} {l : Array Bool} {a : Act} {w : World} (ho : ops[i]? = some o) (hg : Region.wanted o (yielded ops a.tmps) = true)
    (h : ∀ K : Act → World → Prop, Shut (∀ a w', (D i = false → Later w w') → But T w w' → monoN P md ops Q T D n (l.setIfInBounds i true) a w' → K a w') → Oper.wp P o a w K Q) : stepN P md ops Q T D i n l a w :=
  wpOp_step ho (fun K hK => by rw [if_pos hg]; exact h K (fun a w h1 h2 h3 => hK a w ⟨h1, h2, h3⟩))
theorem stepN_new {i n : Nat} {o : Oper} {l : Array Bool} {a : Act} {w : World} (ho : ops[i]? = some o) (hg : o.guard = none) (F : Nat → Value) (Z : Array Value) (ty : TypeId)
    (hrun : (execOp a.eval o).run P w = .ok (.value (F w.heap.size)) (w.alloc (.cells Z ty)))
    (h : ∀ b w1, w.heap.size ≤ b → Later w w1 → Own w1 b Z ty → monoN P md ops Q T D n (l.setIfInBounds i true) (a.put o.dst (F b)) w1) : stepN P md ops Q T D i n l a w :=
  stepN_call ho hg fun K hK => by
    unfold Oper.wp
    rw [hrun, Oper.upon_value]
    have hb : Later w (w.alloc (.cells Z ty)) := (Below.refl _ _).alloc (Nat.le_refl _) _
    exact hK.out _ _ (fun _ => hb) (But.of hb) (h _ _ (Nat.le_refl _) hb (Own.new w Z ty))
structure StoreR (b : Nat) (w w1 : World) : Prop where
  but : But (fun k => k = b) w w1
  bel : ∀ {B : Nat} {w0 : World}, B ≤ b → Below B w0 w → Below B w0 w1
theorem StoreR.sets (b : Nat) (vs : List Value) (w : World) (o : Nat) : StoreR b w (w.setCells b o vs) := ⟨But.sets (T := fun k => k = b) rfl vs o, fun hb h => below_setsN hb vs o h⟩
theorem StoreR.size {b : Nat} {w w1 : World} (h : StoreR b w w1) : w.heap.size ≤ w1.heap.size := h.but.size
theorem ownsRow_stored {w w1 : World} {b base size n : Nat} {e : TypeId} {v : Value} {xs : List Value} (h : w.ownsRow base e size v n xs) (hs : StoreR b w w1) (hb : b < base) : w1.ownsRow base e size v n xs := by
  obtain ⟨h1, h2⟩ := h
  refine ⟨h1, ?_⟩
  rcases h2 with h2 | ⟨g, cap, cur, hv, hg, hh, r⟩
  · exact .inl h2
  · have hlt : g < w.heap.size := by
      rcases Nat.lt_or_ge g w.heap.size with hlt | hge
      · exact hlt
      · rw [Array.getElem?_eq_none hge] at hh; cases hh
    exact .inr ⟨g, cap, cur, hv, hg, (hs.but.blk g hlt (by omega)).trans hh, r⟩
theorem stepN_store {i n : Nat} {o : Oper} {l : Array Bool} {a : Act} {w : World} (ho : ops[i]? = some o) (hg : o.guard = none) (ty : TypeId) (x y : Operand) (hop : o.op = .store ty x y) (b off : Nat) (cells : Array Value)
    (hx : a.eval x = .pointer (some ⟨b, off, none⟩)) (hy : a.eval y = .agg cells) {C : Array Value} {tb : TypeId} (hO : Own w b C tb) (hn : off + cells.size ≤ C.size) (hi : (P.info? ty).map (·.size) = some cells.size) (h1 : cells.all (·.oneCell') = true) (hD : D i = true) (hT : T b)
    (h : ∀ w1, StoreR b w w1 → Own w1 b (setArrN C off cells.toList) tb → monoN P md ops Q T D n (l.setIfInBounds i true) (a.put o.dst undef) w1) : stepN P md ops Q T D i n l a w :=
  stepN_call ho hg fun K hK =>
    wp_store_mid ty x y hop b off cells hx hy (fun j hj => by
      rw [hO.cell (off + j)]
      exact ⟨by rw [Array.getElem?_eq_getElem (by omega)]; rfl, hO.free (off + j)⟩) hi h1 (hK.out _ _ (fun h => by rw [hD] at h; cases h) (But.sets hT _ _) (h _ (StoreR.sets _ _ _ _) (own_setsN _ _ hO)))
theorem stepN_store1 {i n : Nat} {o : Oper} {l : Array Bool} {a : Act} {w : World} (ho : ops[i]? = some o) (hg : o.guard = none) (b off : Nat) (v : Value) {C : Array Value} {tb : TypeId} (hO : Own w b C tb)
    (hrun : (execOp a.eval o).run P w = .ok .skip (w.setCell ⟨b, off, none⟩ v)) (hD : D i = true) (hT : T b)
    (h : ∀ w1, StoreR b w w1 → Own w1 b (C.setIfInBounds off v) tb → monoN P md ops Q T D n (l.setIfInBounds i true) (a.put o.dst undef) w1) : stepN P md ops Q T D i n l a w :=
  stepN_call ho hg fun K hK => by
    unfold Oper.wp
    rw [hrun, Oper.upon_skip]
    exact hK.out _ _ (fun h => by rw [hD] at h; cases h) (But.set hT v) (h _ (StoreR.sets b [v] w off) (hO.set off v))
theorem exec_append {P : Program} {o : Oper} {a : Act} {w w1 : World} {v' : Value} (s x : Operand) (t u : TypeId) (ho : o.op = .call { callee := .builtin .append, args := #[s, x], argTypes := #[t, u] }) (y z : Value) (hs : a.eval s = y) (hx : a.eval x = z)
    (hr : (Builtin.append_ #[t, u] o.type #[y, z]).run P w = .ok v' w1) : (execOp a.eval o).run P w = .ok (.value v') w1 := by
  unfold execOp
  simp only [ho, resolve, invoke, builtin, Sem.run_bind, Sem.run_pure, Result.andThen_ok, List.map_toArray, List.map_cons, List.map_nil, hs, hx, hr]
theorem stepN_ok {i n : Nat} {o : Oper} {l : Array Bool} {a : Act} {w w1 : World} {v : Value} (ho : ops[i]? = some o) (hg : o.guard = none) (hrun : (execOp a.eval o).run P w = .ok (.value v) w1) (hL : D i = false → Later w w1) (hB : But T w w1)
    (h : monoN P md ops Q T D n (l.setIfInBounds i true) (a.put o.dst v) w1) : stepN P md ops Q T D i n l a w :=
  stepN_call ho hg fun K hK => by
    unfold Oper.wp
    rw [hrun, Oper.upon_value]
    exact hK.out _ _ hL hB h
structure AppR (row : Option Nat) (w w1 : World) : Prop where
  but : But (fun k => some k = row) w w1
  bel : ∀ {B : Nat} {w0 : World}, (∀ k, some k = row → B ≤ k) → Below B w0 w → B ≤ w.heap.size → Below B w0 w1
theorem AppR.of {row : Option Nat} {w w1 : World} (h : w.grownBy w1 row) : AppR row w w1 :=
  ⟨⟨h.size, fun b hb ht => h.block b hb ht⟩, fun hk hb hB => hb.grown h hB (fun k e => hk k e.symm)⟩
theorem Own.apped {row : Option Nat} {w w1 : World} {b : Nat} {C : Array Value} {t : TypeId} (h : Own w b C t) (hs : AppR row w w1) (hne : some b ≠ row) : Own w1 b C t := h.but hs.but hne
theorem stepN_append {i n : Nat} {o : Oper} {l : Array Bool} {a : Act} {w : World} (ho : ops[i]? = some o) (hg : o.guard = none) (s x : Operand) (t : TypeId)
    (hop : o.op = .call { callee := .builtin .append, args := #[s, x], argTypes := #[t, t] })
    (base : Nat) (e : TypeId) (ti : TypeInfo) (z : Value) (size bytes : Nat) (ht : P.underlying t = some (.slice e)) (hi : P.info? e = some ti) (hz : ti.zero = some z)
    (hsize : ti.size = size) (hby : ti.bytes = bytes) (hzs : z.cells.size = size) (hsz : 0 < size)
    (v : Value) (len : Nat) (xs : List Value) (hs : a.eval s = v) (hown : w.ownsRow base e size v len xs)
    (ad : Addr) (m c : Nat) (news : List Value) (hx : a.eval x = .slice (some ad) m c) (hl : news.length = m * size) (hnews : ∀ j u, news[j]? = some u → w.cell? (ad.add j) = some u) (h1 : ∀ u ∈ news, u.oneCell' = true)
    (hm : 0 < m) (h63 : len + m ≤ maxLen) (hbytes : (len + m) * bytes ≤ 140737488355328) (hbase : base ≤ w.heap.size) (hD : D i = true) (hT : ∀ k, some k = v.ownBlock → T k)
    (h : ∀ g cap w1, w1.ownsRow base e size (.slice (some ⟨g, 0, none⟩) (len + m) cap) (len + m) (xs ++ news) → AppR v.ownBlock w w1 → monoN P md ops Q T D n (l.setIfInBounds i true) (a.put o.dst (.slice (some ⟨g, 0, none⟩) (len + m) cap)) w1) : stepN P md ops Q T D i n l a w :=
  stepN_call ho hg fun K hK =>
    wp_append_lies w s x t hop base e ti z size bytes ht hi hz hsize hby hzs hsz v len xs hs hown ad m c news hx hl hnews h1 hm h63 hbytes hbase _ rfl fun g cap w1 h2 h3 _ _ =>
      hK.out _ _ (fun h => by rw [hD] at h; cases h) ((AppR.of h3).but.mono' hT) (h g cap w1 h2 (AppR.of h3))
theorem monoN_start {id : Nat} {a : Act} {w : World} (hm : P.follows .mixedOrders = true) (h : ∀ w1, Later w w1 → monoN P .any ops Q T D ops.size (Array.replicate ops.size false) a w1) : (Code.region id ops true).wp P Q a w :=
  wp_region_any hm (monoN_any _ (h _ (Below.refl _ _).drew))
theorem monoN_done {l : Array Bool} {a : Act} {w : World} (hr : Region.ready md ops l = []) (h : Q .normal a w) : ∀ n, monoN P md ops Q T D n l a w
  | 0 => ⟨hr, h⟩
  | _ + 1 => ⟨fun _ => h, by rw [hr]; simp⟩
end
end Go.Proofs.YthbjgfennclidaaGreat
/- What is known: the document's Alike, walked. -/
namespace Go.Proofs.YthbjgfennclidaaGreat
set_option linter.unusedVariables false
set_option linter.unusedSimpArgs false
set_option maxRecDepth 100000
open Go.RowKit
theorem eqIds_len : ∀ {l m : List ByteArray}, l.length ≠ m.length → eqIds l m = false
  | [], [], h => absurd rfl h
  | [], _ :: _, _ => rfl
  | _ :: _, [], _ => rfl
  | a :: l, b :: m, h => by
    simp only [eqIds, Bool.and_eq_false_iff]
    exact .inr (eqIds_len fun e => h (by simp [e]))
theorem eqIds_iff : ∀ {l m : List ByteArray}, l.length = m.length → (eqIds l m = true ↔ ∀ (j : Nat) (a b : ByteArray), l[j]? = some a → m[j]? = some b → (a.toList == b.toList) = true)
  | [], [], _ => by simp [eqIds]
  | [], _ :: _, h => by simp at h
  | _ :: _, [], h => by simp at h
  | a :: l, b :: m, h => by
    simp only [eqIds, Bool.and_eq_true]
    rw [eqIds_iff (by simpa using h)]
    constructor
    · rintro ⟨h1, h2⟩ j x y hx hy
      cases j with
      | zero => simp at hx hy; subst hx hy; exact h1
      | succ j => exact h2 j x y (by simpa using hx) (by simpa using hy)
    · intro h
      exact ⟨h 0 a b rfl rfl, fun j x y hx hy => h (j + 1) x y (by simpa using hx) (by simpa using hy)⟩
theorem eqIds_at {l m : List ByteArray} (hl : l.length = m.length) {j : Nat} {a b : ByteArray} (ha : l[j]? = some a) (hb : m[j]? = some b) (h : (a.toList == b.toList) = false) : eqIds l m = false := by
  cases e : eqIds l m with
  | false => rfl
  | true => rw [(eqIds_iff hl).1 e j a b ha hb] at h; cases h
theorem eqFrs_len : ∀ {l m : List Fr}, l.length ≠ m.length → eqFrs l m = false
  | [], [], h => absurd rfl h
  | [], _ :: _, _ => rfl
  | _ :: _, [], _ => rfl
  | a :: l, b :: m, h => by
    simp only [eqFrs, Bool.and_eq_false_iff]
    exact .inr (eqFrs_len fun e => h (by simp [e]))
theorem eqFrs_iff : ∀ {l m : List Fr}, l.length = m.length → (eqFrs l m = true ↔ ∀ (j : Nat) (a b : Fr), l[j]? = some a → m[j]? = some b → eqFr a b = true)
  | [], [], _ => by simp [eqFrs]
  | [], _ :: _, h => by simp at h
  | _ :: _, [], h => by simp at h
  | a :: l, b :: m, h => by
    simp only [eqFrs, Bool.and_eq_true]
    rw [eqFrs_iff (by simpa using h)]
    constructor
    · rintro ⟨h1, h2⟩ j x y hx hy
      cases j with
      | zero => simp at hx hy; subst hx hy; exact h1
      | succ j => exact h2 j x y (by simpa using hx) (by simpa using hy)
    · intro h
      exact ⟨h 0 a b rfl rfl, fun j x y hx hy => h (j + 1) x y (by simpa using hx) (by simpa using hy)⟩
theorem eqFrs_at {l m : List Fr} (hl : l.length = m.length) {j : Nat} {a b : Fr} (ha : l[j]? = some a) (hb : m[j]? = some b) (h : eqFr a b = false) : eqFrs l m = false := by
  cases e : eqFrs l m with
  | false => rfl
  | true => rw [(eqFrs_iff hl).1 e j a b ha hb] at h; cases h
structure AlS (w : World) (X Y : Array Value) (wr : World) : Prop where
  o1 : Has wr w.heap.size X
  o2 : Has wr (w.heap.size + 1) Y
  bel : Below w.heap.size w wr
theorem AlS.later {w wr w' : World} {X Y : Array Value} (h : AlS w X Y wr) (hb : Below wr.heap.size wr w') : AlS w X Y w' :=
  ⟨h.o1.below hb h.o1.lt, h.o2.below hb h.o2.lt, h.bel.trans (hb.mono h.bel.size)⟩
def AlRel (l m : List Fr) (len : Nat) (X Y : Array Value) (w : World) (iv : Value) (wr : World) : Prop :=
  ∃ k : Nat, k ≤ len ∧ iv = .int .i64 k ∧ Hid (∀ j a b, j < k → l[j]? = some a → m[j]? = some b → eqFr a b = true) ∧ Hid (AlS w X Y wr)
def AlRel2 (l m : List ByteArray) (len : Nat) (X Y : Array Value) (w : World) (iv : Value) (wr : World) : Prop :=
  ∃ k : Nat, k ≤ len ∧ iv = .int .i64 k ∧ Hid (∀ j a b, j < k → l[j]? = some a → m[j]? = some b → (a.toList == b.toList) = true) ∧ Hid (AlS w X Y wr)
set_option maxRecDepth 100000 in
set_option maxHeartbeats 8000000 in
theorem alike_calls (a b : Kn) (v v' : Value) (w : World) (hR : FrW w a.l v) (hM : FrW w b.l v') :
    Calls Tryz.prog 86 #[knV a.star v, knV b.star v'] w fun e w' => e = .returned (.bool (alikeK a b)) ∧ Below w.heap.size w w' := by
  obtain ⟨A, l⟩ := a
  obtain ⟨B, m⟩ := b
  simp only at hR hM ⊢
  obtain ⟨U, oa, cap, b0, o, rfl, hr⟩ := hR
  obtain ⟨U', oa', cap', b0', o', rfl, hr'⟩ := hM
  have HR := Lib.hid hr
  have HR' := Lib.hid hr'
  have hcap := hr.len
  have hmax := hr.max
  have hcap' := hr'.len
  have hmax' := hr'.max
  unfold maxLen at hmax hmax'
  clear hr hr'
  have HE := Lib.hid (show alikeK ⟨A, l⟩ ⟨B, m⟩ = (eqV A B && eqFrs l m) from rfl)
  generalize alikeK ⟨A, l⟩ ⟨B, m⟩ = res at *
  generalize hn : l.length = len at *
  have HN := Lib.hid hn
  generalize hn' : m.length = len' at *
  have HN' := Lib.hid hn'
  clear hn hn'
  have I0 : AlS w (knA A (.slice oa len cap)) (knA B (.slice oa' len' cap')) ((w.alloc (.cells (knA A (.slice oa len cap)) 31)).alloc (.cells (knA B (.slice oa' len' cap')) 31)) :=
    ⟨(Has.new w _ _).alloc _, (Own.newAt _ _ _ (by simp)).has, ((Below.refl _ _).alloc (Nat.le_refl _) _).alloc (by simp) _⟩
  have HI0 := Lib.hid I0
  clear I0
  have hq := fun w' => show (Op.equalIn 10000 28 (.agg #[.int .i64 (A 0), .int .i64 (A 1), .int .i64 (A 2), .int .i64 (A 3), .int .i64 (A 4), .int .i64 (A 5), .int .i64 (A 6), .int .i64 (A 7)]) (.agg #[.int .i64 (B 0), .int .i64 (B 1), .int .i64 (B 2), .int .i64 (B 3), .int .i64 (B 4), .int .i64 (B 5), .int .i64 (B 6), .int .i64 (B 7)])).run Tryz.prog w' = .ok (eqV A B) w' from eqVec7 A B w'
  cases hqq : eqV A B
  · rw [hqq] at hq
    have E := Lib.hid (show res = false by rw [HE.out, hqq]; rfl)
    clear hqq
    go_enter Tryz.func86, Tryz.ntmps86
    go_wp2_with fail
    go_ret
    exact ⟨ret_bool E.out.symm, HI0.out.bel⟩
  rw [hqq] at hq
  have HE2 := Lib.hid (show res = eqFrs l m by rw [HE.out, hqq]; rfl)
  clear hqq HE
  by_cases hne : len = len'
  case neg =>
    have E := Lib.hid (show res = false by rw [HE2.out]; exact eqFrs_len (by rw [HN.out, HN'.out]; exact hne))
    have hne1 : ((len : Int) == (len' : Int)) = false := by simp; omega
    have hne2 : ((len : Int) != (len' : Int)) = true := by simp; omega
    go_enter Tryz.func86, Tryz.ntmps86
    go_wp2_with fail
    go_ret
    exact ⟨ret_bool E.out.symm, HI0.out.bel⟩
  subst hne
  go_enter Tryz.func86, Tryz.ntmps86
  go_wp2_with fail
  clear hq
  go_loopw [5] (fun iv wr => AlRel l m len (knA A (.slice oa len cap)) (knA B (.slice oa' len cap')) w iv wr) (fun iv _ => len - (intOf iv).toNat)
  case atStart => exact ⟨0, Nat.zero_le _, rfl, fun j a b hj => absurd hj (by omega), HI0⟩
  case round =>
    clear HI0
    obtain ⟨k, hk, rfl, HA, HS⟩ := hrel
    by_cases hlt : k < len
    · obtain ⟨f, hf⟩ : ∃ f, l[k]? = some f := ⟨_, List.getElem?_eq_getElem (by rw [HN.out]; exact hlt)⟩
      obtain ⟨g, hg⟩ : ∃ g, m[k]? = some g := ⟨_, List.getElem?_eq_getElem (by rw [HN'.out]; exact hlt)⟩
      obtain ⟨rfl, hb0⟩ := HR.out.at0 (by rw [HN.out]; omega)
      obtain ⟨rfl, hb0'⟩ := HR'.out.at0 (by rw [HN'.out]; omega)
      obtain ⟨ou, cu, bu, qu, hu, ht⟩ := HR.out.ids k f hf
      obtain ⟨ou', cu', bu', qu', hu', ht'⟩ := HR'.out.ids k g hg
      obtain ⟨c0, c1, c2, c3, c4, c5, c6, c7, c8⟩ := fc_cells (w := wr) (fun j z hz => (HS.out.bel.cell (p := ⟨b0, o + k * 9 + j, none⟩) hb0).trans (HR.out.cell k f hf j z hz))
      obtain ⟨d0, d1, d2, d3, d4, d5, d6, d7, d8⟩ := fc_cells (w := wr) (fun j z hz => (HS.out.bel.cell (p := ⟨b0', o' + k * 9 + j, none⟩) hb0').trans (HR'.out.cell k g hg j z hz))
      rw [hu] at c0
      rw [hu'] at d0
      have HF := Lib.hid hf
      have HG := Lib.hid hg
      have HU := Lib.hid hu
      have HU' := Lib.hid hu'
      have HT := Lib.hid ht
      have HT' := Lib.hid ht'
      have hcu := ht.len
      have hmu := ht.max
      have hcu' := ht'.len
      have hmu' := ht'.max
      unfold maxLen at hmu hmu'
      clear hf hg hu hu' ht ht'
      generalize hnf : f.ids.length = nf at *
      have HNF := Lib.hid hnf
      generalize hng : g.ids.length = ng at *
      have HNG := Lib.hid hng
      clear hnf hng
      have LA := fun dd os q => HS.out.o1.regrown dd os q
      have LB := fun dd os q => HS.out.o2.regrown dd os q
      have r0 := fun dd os => cell_regrown c0 dd os
      have s0 := fun dd os => cell_regrown d0 dd os
      have r1 := fun dd os => cell_regrown c1 dd os
      have s1 := fun dd os => cell_regrown d1 dd os
      have r2 := fun dd os => cell_regrown c2 dd os
      have s2 := fun dd os => cell_regrown d2 dd os
      have r3 := fun dd os => cell_regrown c3 dd os
      have s3 := fun dd os => cell_regrown d3 dd os
      have r4 := fun dd os => cell_regrown c4 dd os
      have s4 := fun dd os => cell_regrown d4 dd os
      have r5 := fun dd os => cell_regrown c5 dd os
      have s5 := fun dd os => cell_regrown d5 dd os
      have r6 := fun dd os => cell_regrown c6 dd os
      have s6 := fun dd os => cell_regrown d6 dd os
      have r7 := fun dd os => cell_regrown c7 dd os
      have s7 := fun dd os => cell_regrown d7 dd os
      have r8 := fun dd os => cell_regrown c8 dd os
      have s8 := fun dd os => cell_regrown d8 dd os
      clear c0 c1 c2 c3 c4 c5 c6 c7 c8 d0 d1 d2 d3 d4 d5 d6 d7 d8
      have l1 := HS.out.o1.cell
      have l2 := HS.out.o2.cell
      have z1 := HS.out.o1.lt
      have z2 := HS.out.o2.lt
      have k0 : (0 : Int) ≤ (k : Int) := by omega
      have k1 : (k : Int) < (len : Int) := by omega
      have hq := fun w' => show (Op.equalIn 10000 28 (.agg #[.int .i64 (f.v 0), .int .i64 (f.v 1), .int .i64 (f.v 2), .int .i64 (f.v 3), .int .i64 (f.v 4), .int .i64 (f.v 5), .int .i64 (f.v 6), .int .i64 (f.v 7)]) (.agg #[.int .i64 (g.v 0), .int .i64 (g.v 1), .int .i64 (g.v 2), .int .i64 (g.v 3), .int .i64 (g.v 4), .int .i64 (g.v 5), .int .i64 (g.v 6), .int .i64 (g.v 7)])).run Tryz.prog w' = .ok (eqV f.v g.v) w' from eqVec7 f.v g.v w'
      cases hqq : eqV f.v g.v
      · rw [hqq] at hq
        have E := Lib.hid (show res = false by rw [HE2.out]; exact eqFrs_at (by rw [HN.out, HN'.out]) HF.out HG.out (by unfold eqFr; rw [hqq]; rfl))
        clear hqq
        go_wp2_with fail
        refine wp_region_quiet_below (by kernel_rfl) (by kernel_rfl) ?_
        repeat (first | go_big_quiet_step (fail) | quiet_step (fail))
        refine wpQuiet_nil ?_
        intro w7 hw'
        have hb' := Lib.hid (regrown_below hw')
        clear hw'
        clear r0 s0 r1 s1 r2 s2 r3 s3 r4 s4 r5 s5 r6 s6 r7 s7 r8 s8 LA LB hq l1 l2
        go_wp2_with fail
        go_ret
        exact ⟨ret_bool E.out.symm, HS.out.bel.trans (hb'.out.mono HS.out.bel.size)⟩
      rw [hqq] at hq
      by_cases hne : nf = ng
      case neg =>
        have E := Lib.hid (show res = false by rw [HE2.out]; exact eqFrs_at (by rw [HN.out, HN'.out]) HF.out HG.out (by unfold eqFr; rw [eqIds_len (by rw [HNF.out, HNG.out]; exact hne)]; simp))
        have hne1 : ((nf : Int) == (ng : Int)) = false := by simp; omega
        have hne2 : ((nf : Int) != (ng : Int)) = true := by simp; omega
        clear hqq
        go_wp2_with fail
        refine wp_region_quiet_below (by kernel_rfl) (by kernel_rfl) ?_
        repeat (first | go_big_quiet_step (fail) | quiet_step (fail))
        refine wpQuiet_nil ?_
        intro w7 hw'
        have hb' := Lib.hid (regrown_below hw')
        clear hw'
        clear r0 s0 r1 s1 r2 s2 r3 s3 r4 s4 r5 s5 r6 s6 r7 s7 r8 s8 LA LB hq l1 l2
        go_wp2_with fail
        go_ret
        exact ⟨ret_bool E.out.symm, HS.out.bel.trans (hb'.out.mono HS.out.bel.size)⟩
      subst hne
      have HQ := Lib.hid hqq
      clear hqq
      go_wp2_with fail
      refine wp_region_quiet_below (by kernel_rfl) (by kernel_rfl) ?_
      repeat (first | go_big_quiet_step (fail) | quiet_step (fail))
      refine wpQuiet_nil ?_
      intro w7 hw'
      have hb' := Lib.hid (regrown_below hw')
      clear hw'
      clear r0 s0 r1 s1 r2 s2 r3 s3 r4 s4 r5 s5 r6 s6 r7 s7 r8 s8 LA LB hq l1 l2 z1 z2
      have HS7 := Lib.hid (HS.out.later hb'.out)
      clear hb' HS
      go_wp2_with fail
      go_loopw [6] (fun iv wr => AlRel2 f.ids g.ids nf (knA A (.slice (some ⟨b0, o, none⟩) len cap)) (knA B (.slice (some ⟨b0', o', none⟩) len cap')) w iv wr) (fun iv _ => nf - (intOf iv).toNat)
      case atStart => exact ⟨0, Nat.zero_le _, rfl, fun j a b hj => absurd hj (by omega), HS7⟩
      case round =>
        clear HS7
        obtain ⟨j, hj, rfl, HB, HS⟩ := hrel
        have l1 := HS.out.o1.cell
        have l2 := HS.out.o2.cell
        have z1 := HS.out.o1.lt
        have z2 := HS.out.o2.lt
        obtain ⟨c0, _⟩ := fc_cells (w := wr) (fun j z hz => (HS.out.bel.cell (p := ⟨b0, o + k * 9 + j, none⟩) hb0).trans (HR.out.cell k f HF.out j z hz))
        obtain ⟨d0, _⟩ := fc_cells (w := wr) (fun j z hz => (HS.out.bel.cell (p := ⟨b0', o' + k * 9 + j, none⟩) hb0').trans (HR'.out.cell k g HG.out j z hz))
        rw [HU.out] at c0
        rw [HU'.out] at d0
        by_cases hjt : j < nf
        · obtain ⟨x, hx⟩ : ∃ x, f.ids[j]? = some x := ⟨_, List.getElem?_eq_getElem (by rw [HNF.out]; exact hjt)⟩
          obtain ⟨y, hy⟩ : ∃ y, g.ids[j]? = some y := ⟨_, List.getElem?_eq_getElem (by rw [HNG.out]; exact hjt)⟩
          obtain ⟨rfl, hb1⟩ := HT.out.at0 (by rw [HNF.out]; omega)
          obtain ⟨rfl, hb1'⟩ := HT'.out.at0 (by rw [HNG.out]; omega)
          have x0 := (HS.out.bel.cell (p := ⟨bu, qu + j, none⟩) hb1).trans (HT.out.cell j x hx)
          have y0 := (HS.out.bel.cell (p := ⟨bu', qu' + j, none⟩) hb1').trans (HT'.out.cell j y hy)
          have r0 := fun dd os => cell_regrown c0 dd os
          have s0 := fun dd os => cell_regrown d0 dd os
          have rx := fun dd os => cell_regrown x0 dd os
          have ry := fun dd os => cell_regrown y0 dd os
          have LA := fun dd os q => HS.out.o1.regrown dd os q
          have LB := fun dd os q => HS.out.o2.regrown dd os q
          have j0 : (0 : Int) ≤ (j : Int) := by omega
          have j1 : (j : Int) < (nf : Int) := by omega
          have HX := Lib.hid hx
          have HY := Lib.hid hy
          clear hx hy x0 y0
          cases ht : (x.toList == y.toList)
          · have E := Lib.hid (show res = false by rw [HE2.out]; exact eqFrs_at (by rw [HN.out, HN'.out]) HF.out HG.out (by unfold eqFr; rw [eqIds_at (by rw [HNF.out, HNG.out]) HX.out HY.out ht]; simp))
            go_wp2_with fail
            refine wp_region_quiet_below (by kernel_rfl) (by kernel_rfl) ?_
            repeat (first | go_big_quiet_step (fail) | quiet_step (fail))
            refine wpQuiet_nil ?_
            intro w7 hw'
            have hb' := Lib.hid (regrown_below hw')
            clear hw'
            clear r0 s0 rx ry LA LB l1 l2
            go_wp2_with fail
            go_ret
            exact ⟨ret_bool E.out.symm, HS.out.bel.trans (hb'.out.mono HS.out.bel.size)⟩
          · have HB2 := Lib.hid (show ∀ q a b, q < j + 1 → f.ids[q]? = some a → g.ids[q]? = some b → (a.toList == b.toList) = true from fun q a b hq ha hb => by
              by_cases e : q = j
              · subst e; rw [HX.out] at ha; rw [HY.out] at hb; cases ha; cases hb; exact ht
              · exact HB.out q a b (by omega) ha hb)
            go_wp2_with fail
            refine wp_region_quiet_below (by kernel_rfl) (by kernel_rfl) ?_
            repeat (first | go_big_quiet_step (fail) | quiet_step (fail))
            refine wpQuiet_nil ?_
            intro w7 hw'
            have hb' := Lib.hid (regrown_below hw')
            clear hw'
            clear r0 s0 rx ry LA LB l1 l2
            have HS7 := Lib.hid (HS.out.later hb'.out)
            go_wp2_with fail
            go_roundw
            case rel => exact ⟨j + 1, by omega, by go_num, HB2, HS7⟩
            case measure => simp [intOf]; omega
        · have e : nf = j := by omega
          subst e
          have HA2 := Lib.hid (show ∀ q a b, q < k + 1 → l[q]? = some a → m[q]? = some b → eqFr a b = true from fun q a b hq ha hb => by
            by_cases e : q = k
            · subst e
              rw [HF.out] at ha; rw [HG.out] at hb; cases ha; cases hb
              unfold eqFr
              rw [HQ.out, (eqIds_iff (by rw [HNF.out, HNG.out])).2 fun j x y hx hy => HB.out j x y (by have := posA hx; rw [HNF.out] at this; exact this) hx hy]; rfl
            · exact HA.out q a b (by omega) ha hb)
          go_wp2_with fail
          go_roundw
          case rel => exact ⟨k + 1, by omega, by go_num, HA2, HS⟩
          case measure => simp [intOf]; omega
    · have e : len = k := by omega
      subst e
      have E := Lib.hid (show res = true by
        rw [HE2.out]
        exact (eqFrs_iff (by rw [HN.out, HN'.out])).2 fun j x y hx hy => HA.out j x y (by have := posA hx; rw [HN.out] at this; exact this) hx hy)
      have l1 := HS.out.o1.cell
      have l2 := HS.out.o2.cell
      have z1 := HS.out.o1.lt
      have z2 := HS.out.o2.lt
      go_wp2_with fail
      go_ret
      exact ⟨ret_bool E.out.symm, HS.out.bel⟩
end Go.Proofs.YthbjgfennclidaaGreat
/- Lists of items: what the laws' walks carry. No walk. -/
namespace Go.Proofs.YthbjgfennclidaaGreat
set_option linter.unusedVariables false
set_option linter.unusedSimpArgs false
set_option maxRecDepth 100000
open Go.RowKit
theorem Row.val {sz : Nat} {f : Itm → List Value} {w : World} {l : List Itm} {v : Value} (h : Row sz f w l v) : ∃ oa cap, v = .slice oa l.length cap := by
  obtain ⟨oa, cap, _, _, e, _⟩ := h
  exact ⟨oa, cap, e⟩
theorem Row.alloc {sz : Nat} {f : Itm → List Value} {w : World} {l : List Itm} {v : Value} (h : Row sz f w l v) (o : Obj) : Row sz f (w.alloc o) l v := h.later ((Below.refl _ _).alloc (Nat.le_refl _) _)
theorem Row.drew {sz : Nat} {f : Itm → List Value} {w : World} {l : List Itm} {v : Value} (h : Row sz f w l v) : Row sz f w.drew l v := h.later (Below.refl _ _).drew
theorem Row.oks {sz : Nat} {f : Itm → List Value} {w : World} {l : List Itm} {v : Value} (h : Row sz f w l v) : ∀ i ∈ l, i.id.size ≤ maxLen ∧ i.kd.size ≤ maxLen := by
  obtain ⟨_, _, _, _, _, h⟩ := h
  exact h.ok
abbrev iA (i : Itm) : Array Value := #[.string i.id, .int .i64 i.r, .int .i64 i.c, .int .i64 i.st, .string i.kd, .int .i64 i.num, .complex .f64 i.x i.y, .bool i.d]
theorem row_oneI (w : World) (z : Itm) (t : TypeId) (hz : z.id.size ≤ maxLen ∧ z.kd.size ≤ maxLen) : Row 8 ic (w.alloc (.cells (iA z) t)) [z] (.slice (some ⟨w.heap.size, 0, none⟩) 1 1) := by
  refine ⟨_, 1, w.heap.size, 0, rfl, Nat.le_refl _, by decide, fun _ => ⟨rfl, by simp⟩, fun k i hk j u hu => ?_, fun i hi => by simp at hi; subst hi; exact hz⟩
  match k, hk with
  | 0, hk =>
    simp at hk; subst hk
    have := (Has.new w (iA z) t).cell j
    rw [Nat.zero_mul, Nat.zero_add, this]
    simpa using hu
def mayLB (l : List Itm) : Bool := l.all mayT && risesB l
theorem listMax {l m : List Itm} {f : Itm → Itm → Bool} : (bothI f l m).length ≤ l.length + m.length := by
  unfold bothI
  induction m generalizing l with
  | nil => simp
  | cons y m ih =>
    have := step_len f l y
    have h := ih (l := stepI f l y)
    rw [List.foldl_cons]
    simp only [List.length_cons]; omega
end Go.Proofs.YthbjgfennclidaaGreat
/- Which items a filter has: plain mathematics. No walk. -/
namespace Go.Proofs.YthbjgfennclidaaGreat
set_option linter.unusedVariables false
set_option linter.unusedSimpArgs false
set_option maxRecDepth 100000
structure It where
  id : ByteArray
  kd : ByteArray
  num : Int
  ax : Nat
  ay : Nat
def begB (s t : ByteArray) : Bool := t.data.toList.isPrefixOf s.data.toList
namespace Pr
mutual
def hasB (i : It) : Pr → Bool
  | node op t n x y k =>
    if op = 1 then true
    else if op = 3 then decide (i.kd.toList = t.toList)
    else if op = 4 then begB i.id t
    else if op = 5 then decide (i.num < n)
    else if op = 6 then decide (n ≤ i.num)
    else if op = 7 then nearB i.ax i.ay x y n
    else if op = 8 then hasAll i k
    else if op = 9 then hasAny i k
    else if op = 10 then hasNot i k
    else false
def hasAll (i : It) : List Pr → Bool | [] => true | a :: l => hasB i a && hasAll i l
def hasAny (i : It) : List Pr → Bool | [] => false | a :: l => hasB i a || hasAny i l
def hasNot (i : It) : List Pr → Bool | [] => false | a :: _ => !hasB i a
end
/-! ### What is the same has the same items -/
/-! ### Made plain it has the same -/
end Pr
end Go.Proofs.YthbjgfennclidaaGreat
/- Filters in a world: that a tree lies there. No walk. -/
namespace Go.Proofs.YthbjgfennclidaaGreat
set_option linter.unusedVariables false
set_option linter.unusedSimpArgs false
set_option maxRecDepth 100000
open Go.RowKit
def pc (p : Pr) (v : Value) : List Value := [.int .i64 p.op, .string p.text, .int .i64 p.n, .complex .f64 p.x p.y, v]
def tc (p : Pr) (v : Value) : List Value := [.int .i64 p.op, .string p.text, .int .i64 p.n, .float .f64 p.x, .float .f64 p.y, v]
inductive Lies (sz : Nat) (c : Pr → Value → List Value) (S : Nat → Prop) (w : World) : Pr → Value → Prop where
  | mk (op : Int) (t : ByteArray) (n : Int) (x y : Nat) (kids : List Pr) (oa : Option Addr) (cap b o : Nat) (V : Nat → Value) (ht : t.size ≤ maxLen) (hl : kids.length ≤ cap) (hc : cap ≤ maxLen)
      (hn : 0 < kids.length → oa = some ⟨b, o, none⟩ ∧ S b)
      (hcell : ∀ i p, kids[i]? = some p → ∀ j u, (c p (V i))[j]? = some u → w.cell? ⟨b, o + i * sz + j, none⟩ = some u)
      (hrec : ∀ i p, kids[i]? = some p → Lies sz c S w p (V i)) : Lies sz c S w (.node op t n x y kids) (.slice oa kids.length cap)
theorem some_pos {l : List Pr} {i : Nat} {p : Pr} (h : l[i]? = some p) : i < l.length := (List.getElem?_eq_some_iff.1 h).1
theorem Lies.mono {sz : Nat} {c : Pr → Value → List Value} {S S' : Nat → Prop} {w w' : World} {p : Pr} {v : Value} (h : Lies sz c S w p v)
    (hw : ∀ b o, S b → w'.cell? ⟨b, o, none⟩ = w.cell? ⟨b, o, none⟩) (hS : ∀ b, S b → S' b) : Lies sz c S' w' p v := by
  induction h with
  | mk op t n x y kids oa cap b o V ht hl hc hn hcell hrec ih =>
    refine .mk op t n x y kids oa cap b o V ht hl hc (fun h => ⟨(hn h).1, hS _ (hn h).2⟩) (fun i p hp j u hu => ?_) fun i p hp => ih i p hp
    rw [hw _ _ (hn (by have := some_pos hp; omega)).2]
    exact hcell i p hp j u hu
abbrev LP (w : World) (p : Pr) (v : Value) : Prop := Lies 5 pc (fun b => b < w.heap.size) w p v
abbrev LT (w : World) (p : Pr) (v : Value) : Prop := Lies 6 tc (fun b => b < w.heap.size) w p v
theorem Lies.later {sz : Nat} {c : Pr → Value → List Value} {w w' : World} {p : Pr} {v : Value} {B : Nat} (h : Lies sz c (fun b => b < w.heap.size) w p v) (hb : Below B w w') (hB : w.heap.size ≤ B) : Lies sz c (fun b => b < w'.heap.size) w' p v :=
  h.mono (fun b o hS => hb.cell (p := ⟨b, o, none⟩) (Nat.lt_of_lt_of_le hS hB)) fun _ hS => Nat.lt_of_lt_of_le hS hb.size
theorem Lies.atAlloc {sz : Nat} {c : Pr → Value → List Value} {w : World} {p : Pr} {v : Value} (h : Lies sz c (fun b => b < w.heap.size) w p v) (ob : Obj) : Lies sz c (fun b => b < (w.alloc ob).heap.size) (w.alloc ob) p v :=
  h.later ((Below.refl _ _).alloc (Nat.le_refl _) _) (Nat.le_refl _)
theorem lies_slice {sz : Nat} {c : Pr → Value → List Value} {S : Nat → Prop} {w : World} {p : Pr} {v : Value} (h : Lies sz c S w p v) :
    ∃ (oa : Option Addr) (cap b o : Nat) (V : Nat → Value), v = .slice oa p.kids.length cap ∧ p.text.size ≤ maxLen ∧ p.kids.length ≤ cap ∧ cap ≤ maxLen ∧ (0 < p.kids.length → oa = some ⟨b, o, none⟩ ∧ S b) ∧
      (∀ i q, p.kids[i]? = some q → ∀ j u, (c q (V i))[j]? = some u → w.cell? ⟨b, o + i * sz + j, none⟩ = some u) ∧ (∀ i q, p.kids[i]? = some q → Lies sz c S w q (V i)) := by
  cases h with
  | mk op t n x y kids oa cap b o V ht hl hc hn hcell hrec => exact ⟨oa, cap, b, o, V, rfl, ht, hl, hc, hn, hcell, hrec⟩
theorem lies_one {sz : Nat} {c : Pr → Value → List Value} {S : Nat → Prop} {w : World} {p : Pr} {v : Value} (h : Lies sz c S w p v) : v.oneCell' = true := by
  obtain ⟨_, _, _, _, _, rfl, _⟩ := lies_slice h; rfl
theorem pc_one {q : Pr} {v : Value} (h : v.oneCell' = true) : ∀ u ∈ pc q v, u.oneCell' = true := by
  intro u hu
  simp only [pc, List.mem_cons, List.not_mem_nil, or_false] at hu
  rcases hu with rfl | rfl | rfl | rfl | rfl
  · rfl
  · rfl
  · rfl
  · rfl
  · exact h
theorem pc_cells {w : World} {q : Pr} {v : Value} {b o : Nat} (h : ∀ j u, (pc q v)[j]? = some u → w.cell? ⟨b, o + j, none⟩ = some u) :
    w.cell? ⟨b, o, none⟩ = some (.int .i64 q.op) ∧ w.cell? ⟨b, o + 1, none⟩ = some (.string q.text) ∧ w.cell? ⟨b, o + 2, none⟩ = some (.int .i64 q.n) ∧ w.cell? ⟨b, o + 3, none⟩ = some (.complex .f64 q.x q.y) ∧ w.cell? ⟨b, o + 4, none⟩ = some v :=
  ⟨h 0 _ rfl, h 1 _ rfl, h 2 _ rfl, h 3 _ rfl, h 4 _ rfl⟩
theorem tc_cells {w : World} {q : Pr} {v : Value} {b o : Nat} (h : ∀ j u, (tc q v)[j]? = some u → w.cell? ⟨b, o + j, none⟩ = some u) :
    w.cell? ⟨b, o, none⟩ = some (.int .i64 q.op) ∧ w.cell? ⟨b, o + 1, none⟩ = some (.string q.text) ∧ w.cell? ⟨b, o + 2, none⟩ = some (.int .i64 q.n) ∧ w.cell? ⟨b, o + 3, none⟩ = some (.float .f64 q.x) ∧ w.cell? ⟨b, o + 4, none⟩ = some (.float .f64 q.y) ∧ w.cell? ⟨b, o + 5, none⟩ = some v :=
  ⟨h 0 _ rfl, h 1 _ rfl, h 2 _ rfl, h 3 _ rfl, h 4 _ rfl, h 5 _ rfl⟩
end Go.Proofs.YthbjgfennclidaaGreat
