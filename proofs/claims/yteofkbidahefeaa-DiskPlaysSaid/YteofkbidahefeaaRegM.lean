/- Drawn regions none of whose operations turns what was there: what reads alone what stays may be taken first, wherever it was made. No walk. -/
import Derived.Deep.RegionHeld
import Derived.Below
namespace Go.Proofs.Yteofkbidahefeaa
set_option linter.unusedVariables false
set_option linter.unusedSimpArgs false
set_option maxRecDepth 100000
open Go Go.RowKit

section
variable {P : Program} {ops : Array Oper} {Q : Exit → Act → World → Prop} {md : Region.Mode}

/-- What no operation may turn: a relation of worlds. -/
structure Pre (R : World → World → Prop) : Prop where
  refl : ∀ w, R w w
  trans : ∀ {a b c}, R a b → R b c → R a c
/-- Nothing old turns. -/
abbrev Later (w w' : World) : Prop := Below w.heap.size w w'
theorem Later.on {a b c : World} (h1 : Later a b) (h2 : Later b c) : Later a c := h1.trans (h2.mono h1.size)
theorem laterPre : Pre Later := ⟨fun _ => Below.refl _ _, Later.on⟩
/-- No cell of an old block turns. -/
structure Reads (w w' : World) : Prop where
  size : w.heap.size ≤ w'.heap.size
  cell : ∀ a : Addr, a.block < w.heap.size → w'.cell? a = w.cell? a
theorem Reads.of {w w' : World} (h : Later w w') : Reads w w' := ⟨h.size, fun a ha => h.cell (p := a) ha⟩
theorem readsPre : Pre Reads := ⟨fun _ => ⟨Nat.le_refl _, fun _ _ => rfl⟩, fun h1 h2 => ⟨Nat.le_trans h1.size h2.size, fun a ha => (h2.cell a (Nat.lt_of_lt_of_le ha h1.size)).trans (h1.cell a ha)⟩⟩
variable {R : World → World → Prop}
/-- Whatever comes up next: R from world to world. -/
def monoR (P : Program) (md : Region.Mode) (ops : Array Oper) (Q : Exit → Act → World → Prop) (R : World → World → Prop) (fuel : Nat) (listed : Array Bool) (a : Act) (w : World) : Prop :=
  match fuel with
  | 0 => Region.ready md ops listed = [] ∧ Q .normal a w
  | n + 1 => (Region.ready md ops listed = [] → Q .normal a w) ∧ ∀ i ∈ Region.ready md ops listed,
      wpOp P ops Q i (fun a' w' => R w w' ∧ monoR P md ops Q R n (listed.setIfInBounds i true) a' w') a w
theorem monoR_any : ∀ (n : Nat) {l : Array Bool} {a : Act} {w : World}, monoR P md ops Q R n l a w → wpAny P md ops Q n l a w := by
  intro n
  induction n with
  | zero => intro l a w h; exact h
  | succ n ih => intro l a w h; exact ⟨h.1, fun i hi => wpOp_mono (fun a' w' hk => ih hk.2) (h.2 i hi)⟩
/-- What may come up, and yields the same in every later world, may be taken first. -/
theorem monoR_first (pre : Pre R) {w0 : World} {i : Nat} {oi : Oper} {v : Value} (hi : ops[i]? = some oi) (hsel : ∀ (j : Nat) (o : Oper) cs b, ops[j]? = some o → o.op ≠ .select cs b) (hQ : ∀ c a w, Q (.panic c) (a.put oi.dst v) w → Q (.panic c) a w) :
    ∀ (n : Nat) {l : Array Bool} {a : Act} {w : World}, (∀ j oj, ops[j]? = some oj → j ≠ i → l.getD j true = false → (∀ e ∈ oj.after, Region.binds md e = true → e.on ≠ i) → oi.apart ops oj = true) →
      i ∈ Region.ready md ops l → YieldsIf P ops (R w0) oi v a → R w0 w → monoR P md ops Q R n (l.setIfInBounds i true) (a.put oi.dst v) w → monoR P md ops Q R (n + 1) l a w := by
  intro n
  induction n with
  | zero =>
    intro l a w _ hr hy hT H
    refine ⟨fun h => (by rw [h] at hr; cases hr), fun j hj => ?_⟩
    rcases Decidable.em (j = i) with e | e
    · subst e; exact hy.wpOp hi hT ⟨pre.refl _, H⟩
    · have hm := ready_mono hj e
      rw [H.1] at hm; cases hm
  | succ n ih =>
    intro l a w hfree hr hy hT H
    refine ⟨fun h => (by rw [h] at hr; cases hr), fun j hj => ?_⟩
    rcases Decidable.em (j = i) with e | e
    · subst e; exact hy.wpOp hi hT ⟨pre.refl _, H⟩
    · obtain ⟨hun, oj, hoj, hall⟩ := mem_ready.1 hj
      have hli := (mem_ready.1 hr).1
      have hno : ∀ k ∈ oj.after, Region.binds md k = true → k.on ≠ i := by
        intro k hk hb hki
        have h1 := hall k hk hb
        rw [hki] at h1
        rcases Nat.lt_or_ge i l.size with hl | hl
        · simp [hl] at hli h1; rw [hli] at h1; cases h1
        · simp [Array.getElem?_eq_none hl] at hli
      have hstep := wpOp_putIf hoj (hfree j oj hoj e hun hno) (fun cs b => hsel i oi cs b hi) (fun cs b => hsel j oj cs b hoj) hQ hy (H.2 j (ready_mono hj e))
      refine wpOp_mono (fun a' w' hk => ⟨hk.2.1, ih ?_ (ready_mono hr (Ne.symm e)) hk.1 (pre.trans hT hk.2.1) ?_⟩) hstep
      · intro k ok hok hki hku hkno
        refine hfree k ok hok hki ?_ hkno
        rcases Decidable.em (j = k) with ejk | ejk
        · subst ejk; exact hun
        · rw [getD_set_ne true ejk] at hku; exact hku
      · rw [Array.setIfInBounds_comm _ _ e]; exact hk.2.2
theorem monoR_take (pre : Pre R) {i : Nat} {oi : Oper} {v : Value} {n : Nat} {l : Array Bool} {a : Act} {w : World} (hi : ops[i]? = some oi) (hs : Region.noSelect ops = true) (hf : Region.free md ops l i = true) (hr : (Region.ready md ops l).contains i = true)
    (hQ : ∀ c a w, Q (.panic c) (a.put oi.dst v) w → Q (.panic c) a w) (hy : YieldsIf P ops (R w) oi v a) (h : monoR P md ops Q R n (l.setIfInBounds i true) (a.put oi.dst v) w) : monoR P md ops Q R (n + 1) l a w :=
  monoR_first pre hi (Region.noSelect_spec hs) hQ n (Region.free_spec hi hf) (by simpa using hr) hy (pre.refl _) h
/-- One alone may come up. -/
theorem monoR_one {i : Nat} {o : Oper} {n : Nat} {l : Array Bool} {a : Act} {w : World} (hr : Region.ready md ops l = [i]) (ho : ops[i]? = some o)
    (h : ∀ K : Act → World → Prop, Shut (∀ a w', R w w' → monoR P md ops Q R n (l.setIfInBounds i true) a w' → K a w') → if Region.wanted o (yielded ops a.tmps) = true then Oper.wp P o a w K Q else K (a.put o.dst undef) w) :
    monoR P md ops Q R (n + 1) l a w := by
  refine ⟨fun h0 => (by rw [hr] at h0; cases h0), fun j hj => ?_⟩
  rw [hr] at hj
  have e : j = i := by simpa using hj
  subst e
  exact wpOp_step ho (fun K hK => h K (fun a w h1 h2 => hK a w ⟨h1, h2⟩))
/-- Two may come up. -/
theorem monoR_two {i j : Nat} {o p : Oper} {n : Nat} {l : Array Bool} {a : Act} {w : World} (hr : Region.ready md ops l = [i, j]) (ho : ops[i]? = some o) (hp : ops[j]? = some p)
    (h : ∀ K : Act → World → Prop, Shut (∀ a w', R w w' → monoR P md ops Q R n (l.setIfInBounds i true) a w' → K a w') → if Region.wanted o (yielded ops a.tmps) = true then Oper.wp P o a w K Q else K (a.put o.dst undef) w)
    (h2 : ∀ K : Act → World → Prop, Shut (∀ a w', R w w' → monoR P md ops Q R n (l.setIfInBounds j true) a w' → K a w') → if Region.wanted p (yielded ops a.tmps) = true then Oper.wp P p a w K Q else K (a.put p.dst undef) w) :
    monoR P md ops Q R (n + 1) l a w := by
  refine ⟨fun h0 => (by rw [hr] at h0; cases h0), fun q hq => ?_⟩
  rw [hr] at hq
  have e : q = i ∨ q = j := by simpa using hq
  rcases e with e | e
  · subst e
    exact wpOp_step ho (fun K hK => h K (fun a w h1 h2 => hK a w ⟨h1, h2⟩))
  · subst e
    exact wpOp_step hp (fun K hK => h2 K (fun a w h1 h2 => hK a w ⟨h1, h2⟩))
theorem monoR_done {l : Array Bool} {a : Act} {w : World} (hr : Region.ready md ops l = []) (h : Q .normal a w) : ∀ n, monoR P md ops Q R n l a w
  | 0 => ⟨hr, h⟩
  | _ + 1 => ⟨fun _ => h, by rw [hr]; simp⟩
theorem monoR_begin {id : Nat} {a : Act} {w : World} (hm : P.follows .mixedOrders = true) (h : monoR P .any ops Q R ops.size (Array.replicate ops.size false) a w.drew) : (Code.region id ops true).wp P Q a w :=
  wp_region_any hm (monoR_any _ h)
end
end Go.Proofs.Yteofkbidahefeaa
