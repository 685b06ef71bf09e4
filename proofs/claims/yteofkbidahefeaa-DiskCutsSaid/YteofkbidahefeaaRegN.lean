/- Drawn regions in one order: what no operation turns may be taken first wherever it was made; what late operations (D) store into the blocks T may be taken ahead of them. No walk. -/
import Derived.Test.YteofkbidahefeaaRegM
import Derived.Test.YteofkbidahefeaaRegD
import Derived.Test.YteofkbidahefeaaOwn
import Derived.Deep.MidRow
namespace Go.Proofs.Yteofkbidahefeaa
set_option linter.unusedVariables false
set_option linter.unusedSimpArgs false
set_option maxRecDepth 100000
open Go Go.RowKit

/-- Nothing old turns but blocks of T. -/
structure But (T : Nat → Prop) (w w' : World) : Prop where
  size : w.heap.size ≤ w'.heap.size
  blk : ∀ b, b < w.heap.size → ¬ T b → w'.heap[b]? = w.heap[b]?
section
variable {T : Nat → Prop} {w w' w'' : World}
theorem But.refl (w : World) : But T w w := ⟨Nat.le_refl _, fun _ _ _ => rfl⟩
theorem But.trans (h : But T w w') (k : But T w' w'') : But T w w'' := ⟨Nat.le_trans h.size k.size, fun b hb ht => (k.blk b (Nat.lt_of_lt_of_le hb h.size) ht).trans (h.blk b hb ht)⟩
theorem But.of (h : Later w w') : But T w w' := ⟨h.size, fun b hb _ => h.block b hb⟩
theorem But.mono' {T' : Nat → Prop} (h : But T' w w') (hT : ∀ b, T' b → T b) : But T w w' := ⟨h.size, fun b hb ht => h.blk b hb fun h' => ht (hT b h')⟩
theorem But.set {b o : Nat} (hT : T b) (v : Value) : But T w (w.setCell ⟨b, o, none⟩ v) := ⟨by simp [World.setCell], fun k _ hk => Below.heap_setCell _ _ _ _ (fun e => hk (by subst e; exact hT))⟩
theorem But.sets {b : Nat} (hT : T b) (vs : List Value) : ∀ {w : World} (o : Nat), But T w (w.setCells b o vs) := by
  induction vs with
  | nil => intro w o; exact But.refl _
  | cons u r ih => intro w o; exact (But.set hT u).trans (ih (o + 1))
theorem Own.but {b : Nat} {c : Array Value} {t : TypeId} (h : Own w b c t) (hb : But T w w') (hT : ¬ T b) : Own w' b c t := ⟨by rw [hb.blk b h.lt hT]; exact h.blk⟩
end

theorem below_setsN {b B : Nat} {a : World} (hB : B ≤ b) (vs : List Value) : ∀ {w : World} (o : Nat), Below B a w → Below B a (w.setCells b o vs) := by
  induction vs with
  | nil => intro w o h; exact h
  | cons v r ih => intro w o h; exact ih (o + 1) (h.setCell hB v)
def setArrN (c : Array Value) (o : Nat) : List Value → Array Value
  | [] => c
  | v :: r => setArrN (c.setIfInBounds o v) (o + 1) r
theorem setArrN_size (vs : List Value) : ∀ (c : Array Value) (o : Nat), (setArrN c o vs).size = c.size := by
  induction vs with
  | nil => intro c o; rfl
  | cons v r ih => intro c o; rw [setArrN, ih]; simp
theorem setArrN_get (vs : List Value) : ∀ (c : Array Value) (o j : Nat), j < c.size → (setArrN c o vs)[j]? = if o ≤ j ∧ j < o + vs.length then vs[j - o]? else c[j]? := by
  induction vs with
  | nil => intro c o j hj; rw [setArrN, if_neg (by simp only [List.length_nil]; omega)]
  | cons v r ih =>
    intro c o j hj
    rw [setArrN, ih _ _ _ (by simpa using hj)]
    by_cases e : j = o
    · subst e
      rw [if_neg (by omega), if_pos (by simp)]
      simp [hj]
    · by_cases h : o + 1 ≤ j ∧ j < o + 1 + r.length
      · rw [if_pos h, if_pos (by simp only [List.length_cons]; omega)]
        rw [show j - o = (j - (o + 1)) + 1 by omega, List.getElem?_cons_succ]
      · rw [if_neg h, if_neg (by simp only [List.length_cons]; omega)]
        rw [Array.getElem?_setIfInBounds_ne (fun h' => e h'.symm)]
theorem Own.setsFar' {b b' : Nat} {t : TypeId} {c : Array Value} (vs : List Value) : ∀ {w : World} (o : Nat), b' ≠ b → Own w b' c t → Own (w.setCells b o vs) b' c t := by
  induction vs with
  | nil => intro w o _ h; exact h
  | cons v r ih => intro w o hb h; exact ih (o + 1) hb (h.setFar _ _ hb)
theorem setArrN_all (c : Array Value) (vs : List Value) (h : vs.length = c.size) : setArrN c 0 vs = vs.toArray := by
  apply Array.ext_getElem?
  intro j
  by_cases hj : j < c.size
  · rw [setArrN_get vs c 0 j hj, if_pos (by omega)]; simp
  · rw [Array.getElem?_eq_none (by rw [setArrN_size]; omega), Array.getElem?_eq_none (by simp; omega)]
theorem Own.whole {w : World} {b : Nat} {C : Array Value} {vs : List Value} {t : TypeId} (h : Own w b (setArrN C 0 vs) t) (hn : vs.length = C.size) : Own w b vs.toArray t := by rw [← setArrN_all C vs hn]; exact h
theorem own_setsN {b : Nat} {t : TypeId} (vs : List Value) : ∀ {w : World} {c : Array Value} (o : Nat), Own w b c t → Own (w.setCells b o vs) b (setArrN c o vs) t := by
  induction vs with
  | nil => intro w c o h; exact h
  | cons v r ih => intro w c o h; exact ih (o + 1) (h.set o v)
theorem exec_load_mid {P : Program} {o : Oper} {a : Act} {w : World} (ty : TypeId) (x : Operand) (ho : o.op = .load ty x) (b off : Nat) (hx : a.eval x = .pointer (some ⟨b, off, none⟩)) (cs : List Value) (d : TypeDesc) (hc : w.rangeAt b off cs)
    (hu : P.underlying ty = some d) (hd : d.isRow = true) (hi : (P.info? ty).map (·.size) = some cs.length) : (execOp a.eval o).run P w = .ok (.value (.agg cs.toArray)) w := by
  unfold execOp
  simp only [ho, hx, Instr.loadAt, Instr.sureAddr, Sem.run_bind, Sem.run_pure, Result.andThen_ok, run_loadVar_mid w b off ty cs d hc hu hd hi]
section
variable {P : Program} {ops : Array Oper} {Q : Exit → Act → World → Prop} {md : Region.Mode} {T : Nat → Prop} {D : Nat → Bool}
/-- Whatever comes up next: nothing old turns behind what isn't late, T's blocks alone behind what is. -/
def monoN (P : Program) (md : Region.Mode) (ops : Array Oper) (Q : Exit → Act → World → Prop) (T : Nat → Prop) (D : Nat → Bool) (fuel : Nat) (listed : Array Bool) (a : Act) (w : World) : Prop :=
  match fuel with
  | 0 => Region.ready md ops listed = [] ∧ Q .normal a w
  | n + 1 => (Region.ready md ops listed = [] → Q .normal a w) ∧ ∀ i ∈ Region.ready md ops listed,
      wpOp P ops Q i (fun a' w' => (D i = false → Later w w') ∧ But T w w' ∧ monoN P md ops Q T D n (listed.setIfInBounds i true) a' w') a w
theorem monoN_any : ∀ (n : Nat) {l : Array Bool} {a : Act} {w : World}, monoN P md ops Q T D n l a w → wpAny P md ops Q n l a w := by
  intro n
  induction n with
  | zero => intro l a w h; exact h
  | succ n ih => intro l a w h; exact ⟨h.1, fun i hi => wpOp_mono (fun a' w' hk => ih hk.2.2) (h.2 i hi)⟩
theorem monoN_first {w0 : World} {i : Nat} {oi : Oper} {v : Value} (hi : ops[i]? = some oi) (hsel : ∀ (j : Nat) (o : Oper) cs b, ops[j]? = some o → o.op ≠ .select cs b) (hQ : ∀ c a w, Q (.panic c) (a.put oi.dst v) w → Q (.panic c) a w) (hW : waitB md ops D i = true) :
    ∀ (n : Nat) {l : Array Bool} {a : Act} {w : World}, (∀ j oj, ops[j]? = some oj → j ≠ i → l.getD j true = false → (∀ e ∈ oj.after, Region.binds md e = true → e.on ≠ i) → oi.apart ops oj = true) →
      i ∈ Region.ready md ops l → YieldsIf P ops (Later w0) oi v a → Later w0 w → monoN P md ops Q T D n (l.setIfInBounds i true) (a.put oi.dst v) w → monoN P md ops Q T D (n + 1) l a w := by
  intro n
  induction n with
  | zero =>
    intro l a w _ hr hy hT H
    refine ⟨fun h => (by rw [h] at hr; cases hr), fun j hj => ?_⟩
    rcases Decidable.em (j = i) with e | e
    · subst e; exact hy.wpOp hi hT ⟨fun _ => Below.refl _ _, But.refl _, H⟩
    · have hm := ready_mono hj e
      rw [H.1] at hm; cases hm
  | succ n ih =>
    intro l a w hfree hr hy hT H
    refine ⟨fun h => (by rw [h] at hr; cases hr), fun j hj => ?_⟩
    rcases Decidable.em (j = i) with e | e
    · subst e; exact hy.wpOp hi hT ⟨fun _ => Below.refl _ _, But.refl _, H⟩
    · obtain ⟨hun, oj, hoj, hall⟩ := mem_ready.1 hj
      have hli := (mem_ready.1 hr).1
      have hDj := wait_of hW hj hoj hli
      have hno : ∀ k ∈ oj.after, Region.binds md k = true → k.on ≠ i := by
        intro k hk hb hki
        have h1 := hall k hk hb
        rw [hki] at h1
        rcases Nat.lt_or_ge i l.size with hl | hl
        · simp [hl] at hli h1; rw [hli] at h1; cases h1
        · simp [Array.getElem?_eq_none hl] at hli
      have hstep := wpOp_putIf hoj (hfree j oj hoj e hun hno) (fun cs b => hsel i oi cs b hi) (fun cs b => hsel j oj cs b hoj) hQ hy (H.2 j (ready_mono hj e))
      refine wpOp_mono (fun a' w' hk => ⟨hk.2.1, hk.2.2.1, ih ?_ (ready_mono hr (Ne.symm e)) hk.1 (hT.on (hk.2.1 hDj)) ?_⟩) hstep
      · intro k ok hok hki hku hkno
        refine hfree k ok hok hki ?_ hkno
        rcases Decidable.em (j = k) with ejk | ejk
        · subst ejk; exact hun
        · rw [getD_set_ne true ejk] at hku; exact hku
      · rw [Array.setIfInBounds_comm _ _ e]; exact hk.2.2.2
theorem monoN_first2 {w0 : World} {i : Nat} {oi : Oper} {v : Value} (hi : ops[i]? = some oi) (hsel : ∀ (j : Nat) (o : Oper) cs b, ops[j]? = some o → o.op ≠ .select cs b) (hQ : ∀ c a w, Q (.panic c) (a.put oi.dst v) w → Q (.panic c) a w) :
    ∀ (n : Nat) {l : Array Bool} {a : Act} {w : World}, (∀ j oj, ops[j]? = some oj → j ≠ i → l.getD j true = false → (∀ e ∈ oj.after, Region.binds md e = true → e.on ≠ i) → oi.apart ops oj = true) →
      i ∈ Region.ready md ops l → YieldsIf P ops (But T w0) oi v a → But T w0 w → monoN P md ops Q T D n (l.setIfInBounds i true) (a.put oi.dst v) w → monoN P md ops Q T D (n + 1) l a w := by
  intro n
  induction n with
  | zero =>
    intro l a w _ hr hy hT H
    refine ⟨fun h => (by rw [h] at hr; cases hr), fun j hj => ?_⟩
    rcases Decidable.em (j = i) with e | e
    · subst e; exact hy.wpOp hi hT ⟨fun _ => Below.refl _ _, But.refl _, H⟩
    · have hm := ready_mono hj e
      rw [H.1] at hm; cases hm
  | succ n ih =>
    intro l a w hfree hr hy hT H
    refine ⟨fun h => (by rw [h] at hr; cases hr), fun j hj => ?_⟩
    rcases Decidable.em (j = i) with e | e
    · subst e; exact hy.wpOp hi hT ⟨fun _ => Below.refl _ _, But.refl _, H⟩
    · obtain ⟨hun, oj, hoj, hall⟩ := mem_ready.1 hj
      have hli := (mem_ready.1 hr).1
      have hno : ∀ k ∈ oj.after, Region.binds md k = true → k.on ≠ i := by
        intro k hk hb hki
        have h1 := hall k hk hb
        rw [hki] at h1
        rcases Nat.lt_or_ge i l.size with hl | hl
        · simp [hl] at hli h1; rw [hli] at h1; cases h1
        · simp [Array.getElem?_eq_none hl] at hli
      have hstep := wpOp_putIf hoj (hfree j oj hoj e hun hno) (fun cs b => hsel i oi cs b hi) (fun cs b => hsel j oj cs b hoj) hQ hy (H.2 j (ready_mono hj e))
      refine wpOp_mono (fun a' w' hk => ⟨hk.2.1, hk.2.2.1, ih ?_ (ready_mono hr (Ne.symm e)) hk.1 (hT.trans hk.2.2.1) ?_⟩) hstep
      · intro k ok hok hki hku hkno
        refine hfree k ok hok hki ?_ hkno
        rcases Decidable.em (j = k) with ejk | ejk
        · subst ejk; exact hun
        · rw [getD_set_ne true ejk] at hku; exact hku
      · rw [Array.setIfInBounds_comm _ _ e]; exact hk.2.2.2
theorem monoN_take {i : Nat} {oi : Oper} {v : Value} {n : Nat} {l : Array Bool} {a : Act} {w : World} (hi : ops[i]? = some oi) (hs : Region.noSelect ops = true) (hf : Region.free md ops l i = true) (hr : (Region.ready md ops l).contains i = true) (hW : waitB md ops D i = true)
    (hQ : ∀ c a w, Q (.panic c) (a.put oi.dst v) w → Q (.panic c) a w) (hy : YieldsIf P ops (Later w) oi v a) (h : monoN P md ops Q T D n (l.setIfInBounds i true) (a.put oi.dst v) w) : monoN P md ops Q T D (n + 1) l a w :=
  monoN_first hi (Region.noSelect_spec hs) hQ hW n (Region.free_spec hi hf) (by simpa using hr) hy (Below.refl _ _) h
theorem monoN_stay {i : Nat} {oi : Oper} {v : Value} {n : Nat} {l : Array Bool} {a : Act} {w : World} (hi : ops[i]? = some oi) (hs : Region.noSelect ops = true) (hf : Region.free md ops l i = true) (hr : (Region.ready md ops l).contains i = true)
    (hQ : ∀ c a w, Q (.panic c) (a.put oi.dst v) w → Q (.panic c) a w) (hy : YieldsIf P ops (But T w) oi v a) (h : monoN P md ops Q T D n (l.setIfInBounds i true) (a.put oi.dst v) w) : monoN P md ops Q T D (n + 1) l a w :=
  monoN_first2 hi (Region.noSelect_spec hs) hQ n (Region.free_spec hi hf) (by simpa using hr) hy (But.refl _) h
/-- Number i comes up. -/
def stepN (P : Program) (md : Region.Mode) (ops : Array Oper) (Q : Exit → Act → World → Prop) (T : Nat → Prop) (D : Nat → Bool) (i n : Nat) (l : Array Bool) (a : Act) (w : World) : Prop :=
  wpOp P ops Q i (fun a' w' => (D i = false → Later w w') ∧ But T w w' ∧ monoN P md ops Q T D n (l.setIfInBounds i true) a' w') a w
theorem monoN_r1 {i n : Nat} {l : Array Bool} {a : Act} {w : World} (hr : Region.ready md ops l = [i]) (h : stepN P md ops Q T D i n l a w) : monoN P md ops Q T D (n + 1) l a w := by
  refine ⟨fun h0 => (by rw [h0] at hr; cases hr), fun j hj => ?_⟩
  rw [hr] at hj
  have e : j = i := by simpa using hj
  subst e; exact h
theorem monoN_r2 {i j n : Nat} {l : Array Bool} {a : Act} {w : World} (hr : Region.ready md ops l = [i, j]) (h : stepN P md ops Q T D i n l a w) (h2 : stepN P md ops Q T D j n l a w) : monoN P md ops Q T D (n + 1) l a w := by
  refine ⟨fun h0 => (by rw [h0] at hr; cases hr), fun q hq => ?_⟩
  rw [hr] at hq
  have e : q = i ∨ q = j := by simpa using hq
  rcases e with e | e
  · subst e; exact h
  · subst e; exact h2
theorem monoN_r3 {i j k n : Nat} {l : Array Bool} {a : Act} {w : World} (hr : Region.ready md ops l = [i, j, k]) (h : stepN P md ops Q T D i n l a w) (h2 : stepN P md ops Q T D j n l a w) (h3 : stepN P md ops Q T D k n l a w) : monoN P md ops Q T D (n + 1) l a w := by
  refine ⟨fun h0 => (by rw [h0] at hr; cases hr), fun q hq => ?_⟩
  rw [hr] at hq
  have e : q = i ∨ q = j ∨ q = k := by simpa using hq
  rcases e with e | e | e
  · subst e; exact h
  · subst e; exact h2
  · subst e; exact h3
/-- A call, or whatever it is. -/
theorem stepN_call {i n : Nat} {o : Oper} {l : Array Bool} {a : Act} {w : World} (ho : ops[i]? = some o) (hg : o.guard = none)
    (h : ∀ K : Act → World → Prop, Shut (∀ a w', (D i = false → Later w w') → But T w w' → monoN P md ops Q T D n (l.setIfInBounds i true) a w' → K a w') → Oper.wp P o a w K Q) : stepN P md ops Q T D i n l a w :=
  wpOp_step ho (fun K hK => by rw [if_pos (by simp [Region.wanted, hg])]; exact h K (fun a w h1 h2 h3 => hK a w ⟨h1, h2, h3⟩))
/-- A call that is wanted by its guard. -/
theorem stepN_callG {i n : Nat} {o : Oper} {l : Array Bool} {a : Act} {w : World} (ho : ops[i]? = some o) (hg : Region.wanted o (yielded ops a.tmps) = true)
    (h : ∀ K : Act → World → Prop, Shut (∀ a w', (D i = false → Later w w') → But T w w' → monoN P md ops Q T D n (l.setIfInBounds i true) a w' → K a w') → Oper.wp P o a w K Q) : stepN P md ops Q T D i n l a w :=
  wpOp_step ho (fun K hK => by rw [if_pos hg]; exact h K (fun a w h1 h2 h3 => hK a w ⟨h1, h2, h3⟩))
/-- A new block. -/
theorem stepN_new {i n : Nat} {o : Oper} {l : Array Bool} {a : Act} {w : World} (ho : ops[i]? = some o) (hg : o.guard = none) (F : Nat → Value) (Z : Array Value) (ty : TypeId)
    (hrun : (execOp a.eval o).run P w = .ok (.value (F w.heap.size)) (w.alloc (.cells Z ty)))
    (h : ∀ b w1, w.heap.size ≤ b → Later w w1 → Own w1 b Z ty → monoN P md ops Q T D n (l.setIfInBounds i true) (a.put o.dst (F b)) w1) : stepN P md ops Q T D i n l a w :=
  stepN_call ho hg fun K hK => by
    unfold Oper.wp
    rw [hrun, Oper.upon_value]
    have hb : Later w (w.alloc (.cells Z ty)) := (Below.refl _ _).alloc (Nat.le_refl _) _
    exact hK.out _ _ (fun _ => hb) (But.of hb) (h _ _ (Nat.le_refl _) hb (Own.new w Z ty))
/-- What stays behind a store into block b. -/
structure StoreR (b : Nat) (w w1 : World) : Prop where
  but : But (fun k => k = b) w w1
  bel : ∀ {B : Nat} {w0 : World}, B ≤ b → Below B w0 w → Below B w0 w1
theorem StoreR.sets (b : Nat) (vs : List Value) (w : World) (o : Nat) : StoreR b w (w.setCells b o vs) := ⟨But.sets (T := fun k => k = b) rfl vs o, fun hb h => below_setsN hb vs o h⟩
theorem StoreR.size {b : Nat} {w w1 : World} (h : StoreR b w w1) : w.heap.size ≤ w1.heap.size := h.but.size
theorem ownsRow_stored {w w1 : World} {b base size n : Nat} {e : TypeId} {v : Value} {xs : List Value} (h : w.ownsRow base e size v n xs) (hs : StoreR b w w1) (hb : b < base) : w1.ownsRow base e size v n xs := by
  obtain ⟨h1, h2⟩ := h
  refine ⟨h1, ?_⟩
  rcases h2 with h2 | ⟨g, cap, cur, hv, hg, hh, r⟩
  · exact .inl h2
  · have hlt : g < w.heap.size := by
      rcases Nat.lt_or_ge g w.heap.size with hlt | hge
      · exact hlt
      · rw [Array.getElem?_eq_none hge] at hh; cases hh
    exact .inr ⟨g, cap, cur, hv, hg, (hs.but.blk g hlt (by omega)).trans hh, r⟩
/-- A store of a struct into a block that is known whole. -/
theorem stepN_store {i n : Nat} {o : Oper} {l : Array Bool} {a : Act} {w : World} (ho : ops[i]? = some o) (hg : o.guard = none) (ty : TypeId) (x y : Operand) (hop : o.op = .store ty x y) (b off : Nat) (cells : Array Value)
    (hx : a.eval x = .pointer (some ⟨b, off, none⟩)) (hy : a.eval y = .agg cells) {C : Array Value} {tb : TypeId} (hO : Own w b C tb) (hn : off + cells.size ≤ C.size) (hi : (P.info? ty).map (·.size) = some cells.size) (h1 : cells.all (·.oneCell') = true) (hD : D i = true) (hT : T b)
    (h : ∀ w1, StoreR b w w1 → Own w1 b (setArrN C off cells.toList) tb → monoN P md ops Q T D n (l.setIfInBounds i true) (a.put o.dst undef) w1) : stepN P md ops Q T D i n l a w :=
  stepN_call ho hg fun K hK =>
    wp_store_mid ty x y hop b off cells hx hy (fun j hj => by
      rw [hO.cell (off + j)]
      exact ⟨by rw [Array.getElem?_eq_getElem (by omega)]; rfl, hO.free (off + j)⟩) hi h1 (hK.out _ _ (fun h => by rw [hD] at h; cases h) (But.sets hT _ _) (h _ (StoreR.sets _ _ _ _) (own_setsN _ _ hO)))
/-- A store of one cell into a block that is known whole. -/
theorem stepN_store1 {i n : Nat} {o : Oper} {l : Array Bool} {a : Act} {w : World} (ho : ops[i]? = some o) (hg : o.guard = none) (b off : Nat) (v : Value) {C : Array Value} {tb : TypeId} (hO : Own w b C tb)
    (hrun : (execOp a.eval o).run P w = .ok .skip (w.setCell ⟨b, off, none⟩ v)) (hD : D i = true) (hT : T b)
    (h : ∀ w1, StoreR b w w1 → Own w1 b (C.setIfInBounds off v) tb → monoN P md ops Q T D n (l.setIfInBounds i true) (a.put o.dst undef) w1) : stepN P md ops Q T D i n l a w :=
  stepN_call ho hg fun K hK => by
    unfold Oper.wp
    rw [hrun, Oper.upon_skip]
    exact hK.out _ _ (fun h => by rw [hD] at h; cases h) (But.set hT v) (h _ (StoreR.sets b [v] w off) (hO.set off v))
/-- An append's run. -/
theorem exec_append {P : Program} {o : Oper} {a : Act} {w w1 : World} {v' : Value} (s x : Operand) (t u : TypeId) (ho : o.op = .call { callee := .builtin .append, args := #[s, x], argTypes := #[t, u] }) (y z : Value) (hs : a.eval s = y) (hx : a.eval x = z)
    (hr : (Builtin.append_ #[t, u] o.type #[y, z]).run P w = .ok v' w1) : (execOp a.eval o).run P w = .ok (.value v') w1 := by
  unfold execOp
  simp only [ho, resolve, invoke, builtin, Sem.run_bind, Sem.run_pure, Result.andThen_ok, List.map_toArray, List.map_cons, List.map_nil, hs, hx, hr]
/-- What a run yields is known. -/
theorem stepN_ok {i n : Nat} {o : Oper} {l : Array Bool} {a : Act} {w w1 : World} {v : Value} (ho : ops[i]? = some o) (hg : o.guard = none) (hrun : (execOp a.eval o).run P w = .ok (.value v) w1) (hL : D i = false → Later w w1) (hB : But T w w1)
    (h : monoN P md ops Q T D n (l.setIfInBounds i true) (a.put o.dst v) w1) : stepN P md ops Q T D i n l a w :=
  stepN_call ho hg fun K hK => by
    unfold Oper.wp
    rw [hrun, Oper.upon_value]
    exact hK.out _ _ hL hB h
/-- What reads alone, at its turn. -/
theorem stepN_read {i n : Nat} {o : Oper} {l : Array Bool} {a : Act} {w : World} {v : Value} (ho : ops[i]? = some o) (hg : o.guard = none) (hrun : (execOp a.eval o).run P w = .ok (.value v) w)
    (h : monoN P md ops Q T D n (l.setIfInBounds i true) (a.put o.dst v) w) : stepN P md ops Q T D i n l a w := stepN_ok ho hg hrun (fun _ => Below.refl _ _) (But.refl _) h
/-- A store of one cell: the world written out. -/
theorem stepN_set {i n : Nat} {o : Oper} {l : Array Bool} {a : Act} {w : World} (ho : ops[i]? = some o) (hg : o.guard = none) (b off : Nat) (v : Value) (hrun : (execOp a.eval o).run P w = .ok .skip (w.setCell ⟨b, off, none⟩ v)) (hD : D i = true) (hT : T b)
    (h : monoN P md ops Q T D n (l.setIfInBounds i true) (a.put o.dst undef) (w.setCell ⟨b, off, none⟩ v)) : stepN P md ops Q T D i n l a w :=
  stepN_call ho hg fun K hK => by
    unfold Oper.wp
    rw [hrun, Oper.upon_skip]
    exact hK.out _ _ (fun h => by rw [hD] at h; cases h) (But.set hT v) h
/-- What stays behind an append to a row (row: its block). -/
structure AppR (row : Option Nat) (w w1 : World) : Prop where
  but : But (fun k => some k = row) w w1
  bel : ∀ {B : Nat} {w0 : World}, (∀ k, some k = row → B ≤ k) → Below B w0 w → B ≤ w.heap.size → Below B w0 w1
theorem AppR.of {row : Option Nat} {w w1 : World} (h : w.grownBy w1 row) : AppR row w w1 :=
  ⟨⟨h.size, fun b hb ht => h.block b hb ht⟩, fun hk hb hB => hb.grown h hB (fun k e => hk k e.symm)⟩
theorem Own.apped {row : Option Nat} {w w1 : World} {b : Nat} {C : Array Value} {t : TypeId} (h : Own w b C t) (hs : AppR row w w1) (hne : some b ≠ row) : Own w1 b C t := h.but hs.but hne
/-- An append to nil, or to a row that the call owns. -/
theorem stepN_append {i n : Nat} {o : Oper} {l : Array Bool} {a : Act} {w : World} (ho : ops[i]? = some o) (hg : o.guard = none) (s x : Operand) (t : TypeId)
    (hop : o.op = .call { callee := .builtin .append, args := #[s, x], argTypes := #[t, t] })
    (base : Nat) (e : TypeId) (ti : TypeInfo) (z : Value) (size bytes : Nat) (ht : P.underlying t = some (.slice e)) (hi : P.info? e = some ti) (hz : ti.zero = some z)
    (hsize : ti.size = size) (hby : ti.bytes = bytes) (hzs : z.cells.size = size) (hsz : 0 < size)
    (v : Value) (len : Nat) (xs : List Value) (hs : a.eval s = v) (hown : w.ownsRow base e size v len xs)
    (ad : Addr) (m c : Nat) (news : List Value) (hx : a.eval x = .slice (some ad) m c) (hl : news.length = m * size) (hnews : ∀ j u, news[j]? = some u → w.cell? (ad.add j) = some u) (h1 : ∀ u ∈ news, u.oneCell' = true)
    (hm : 0 < m) (h63 : len + m ≤ maxLen) (hbytes : (len + m) * bytes ≤ 140737488355328) (hbase : base ≤ w.heap.size) (hD : D i = true) (hT : ∀ k, some k = v.ownBlock → T k)
    (h : ∀ g cap w1, w1.ownsRow base e size (.slice (some ⟨g, 0, none⟩) (len + m) cap) (len + m) (xs ++ news) → AppR v.ownBlock w w1 → monoN P md ops Q T D n (l.setIfInBounds i true) (a.put o.dst (.slice (some ⟨g, 0, none⟩) (len + m) cap)) w1) : stepN P md ops Q T D i n l a w :=
  stepN_call ho hg fun K hK =>
    wp_append_lies w s x t hop base e ti z size bytes ht hi hz hsize hby hzs hsz v len xs hs hown ad m c news hx hl hnews h1 hm h63 hbytes hbase _ rfl fun g cap w1 h2 h3 _ _ =>
      hK.out _ _ (fun h => by rw [hD] at h; cases h) ((AppR.of h3).but.mono' hT) (h g cap w1 h2 (AppR.of h3))
theorem monoN_start {id : Nat} {a : Act} {w : World} (hm : P.follows .mixedOrders = true) (h : ∀ w1, Later w w1 → monoN P .any ops Q T D ops.size (Array.replicate ops.size false) a w1) : (Code.region id ops true).wp P Q a w :=
  wp_region_any hm (monoN_any _ (h _ (Below.refl _ _).drew))
theorem monoN_done {l : Array Bool} {a : Act} {w : World} (hr : Region.ready md ops l = []) (h : Q .normal a w) : ∀ n, monoN P md ops Q T D n l a w
  | 0 => ⟨hr, h⟩
  | _ + 1 => ⟨fun _ => h, by rw [hr]; simp⟩
theorem monoN_begin {id : Nat} {a : Act} {w : World} (hm : P.follows .mixedOrders = true) (h : monoN P .any ops Q T D ops.size (Array.replicate ops.size false) a w.drew) : (Code.region id ops true).wp P Q a w :=
  wp_region_any hm (monoN_any _ h)
end
end Go.Proofs.Yteofkbidahefeaa
