/- Joined: LConc, LMay, OpenA, LPut, RegL. -/
import Derived.Test.YthbjgfennclidaaGreatJ16
import Derived.Shelf.Spec.SlicesGrow
import Derived.Lib.AppendZeros
import Derived.Test.YthbjgfennclidaaGreatJ12
import Derived.Deep.DeepCutAuto
import Derived.Test.YthbjgfennclidaaGreatRows
import Derived.WalkKit
import Derived.ProofKit
import Derived.OpenShut
import Derived.ShutString
import Derived.ChangeOld
import Derived.Below
import Derived.Deep.Fields
import Derived.WalkLawsBesides
import Derived.Deep.RegionLaw
import Derived.Deep.RegionHeld3
import Derived.TacticsIn
import Derived.OrdersIn
import Derived.RangeFuncCalls
import Derived.Test.YthbjgfennclidaaGreatJ10
/- Lists of items, one behind the other: slices.Concat, walked over the library's contract of slices.Grow, laid at this program; items that lie there appended. -/
namespace Go.Proofs.YthbjgfennclidaaGreat
set_option linter.unusedVariables false
set_option linter.unusedSimpArgs false
set_option maxRecDepth 100000
open Go.RowKit
theorem storeNoneI (a : Addr) (w : World) : (storeCells a []).run Tryz.prog w = .ok () w := by simp [storeCells]
theorem run_append_zeroI (ty : TypeId) (base oa : Option Addr) (n cap c : Nat) (hn : n ≤ cap) (w : World) :
    (Builtin.append_ #[50, 50] ty #[.slice base n cap, .slice oa 0 c]).run Tryz.prog w = .ok (.slice base n cap) w := by
  obtain ⟨j0, hj, hy0, hy1, hy2⟩ := info_parts info_item
  have hf : (Builtin.firstCells j0.size 0 (.slice oa 0 c)).run Tryz.prog w = .ok #[] w := by
    cases oa with
    | none => exact run_firstCells_none w _ _ _ _
    | some a => exact run_firstCells_some w j0.size 0 a 0 c [] (by simp) (fun j v h => by simp at h)
  cases base with
  | none => simp [Builtin.append_, run_underlying Tryz.underlying50, sizeOf, typeInfo, hj, Builtin.lenOf, hn, hf, Result.andThen]
  | some a => simp [Builtin.append_, run_underlying Tryz.underlying50, sizeOf, typeInfo, hj, Builtin.lenOf, hn, hf, storeNoneI, Result.andThen]
theorem cellsI_one8 (l : List Itm) : ∀ u ∈ cellsI l, u.oneCell' = true := by
  intro u hu
  unfold cellsI at hu
  obtain ⟨i, _, hi⟩ := List.mem_flatMap.1 hu
  exact itI_one i u hi
theorem run_append_items (ty : TypeId) {w : World} {base : Nat} {v sv : Value} {l m : List Itm} (hown : OwnI w base l v) (hM : Row 8 ic w m sv) (hn : l.length + m.length ≤ 30000) (hbase : base ≤ w.heap.size) :
    ∃ v' w', (Builtin.append_ #[50, 50] ty #[v, sv]).run Tryz.prog w = .ok v' w' ∧ OwnI w' base (l ++ m) v' ∧ w.grownBy w' v.ownBlock := by
  obtain ⟨oa, cap, b, o, rfl, h⟩ := hM
  obtain ⟨j0, hj, hy0, hy1, hy2⟩ := info_parts info_item
  by_cases h0 : m.length = 0
  · have e : m = [] := List.length_eq_zero_iff.1 h0
    subst e
    obtain ⟨ov, cv, gv, e, h1, _⟩ := row_slice hown
    subst e
    refine ⟨_, w, run_append_zeroI ty ov oa l.length cv cap h1 w, ?_, ⟨rfl, rfl, rfl, Nat.le_refl _, fun _ _ _ => rfl⟩⟩
    rw [List.append_nil]; exact hown
  · obtain ⟨rfl, hb⟩ := h.at0 (by omega)
    obtain ⟨v', w', r1, r2, r3, _⟩ := run_append_own w base 50 ty 68 j0 _ 8 88 Tryz.underlying50 hj hy0 hy1 hy2 rfl (by omega) v l.length (cellsI l) hown ⟨b, o, none⟩ m.length cap (cellsI m) (cellsI_len m) (rowI_news h rfl) (cellsI_one8 m) (by unfold maxLen; omega) (by omega) hbase
    refine ⟨v', w', r1, ?_, r3⟩
    unfold OwnI
    rw [cellsI_append, List.length_append]
    exact r2
/-! ### Slices of slices that lie there -/
end Go.Proofs.YthbjgfennclidaaGreat
/- The code's list.May, Get. Walked. -/
namespace Go.Proofs.YthbjgfennclidaaGreat
set_option linter.unusedVariables false
set_option linter.unusedSimpArgs false
set_option maxRecDepth 100000
open Go.RowKit
theorem mayC_calls (i : Itm) (w : World) :
    Calls Tryz.prog 92 #[iV i] w fun e w' => e = .returned (.bool (mayT i)) ∧ Below w.heap.size w w' :=
  itemMay_calls i.id i.r i.c i.st i.kd i.num i.x i.y i.d w
set_option maxRecDepth 100000 in
set_option maxHeartbeats 4000000 in
theorem listGet_calls (l : List Itm) (id : ByteArray) (v : Value) (w : World) (hR : Row 8 ic w l v) (hr : RiseI l) (hl : l.length ≤ 1000) (_ : id.size ≤ maxLen) :
    Calls Tryz.prog 114 #[v, .string id] w fun e w' => e = .returned (.tuple #[iV (getI l id).1, .bool (getI l id).2]) ∧ Below w.heap.size w w' := by
  have LR := Lib.hid (hR.alloc (.cells (iA Itm.zero) 68))
  have S := Lib.hid (span_calls l id v _ LR.out hr (by omega))
  have OT := Lib.hid (Own.new w (iA Itm.zero) 68)
  have BEL := Lib.hid ((Below.refl w.heap.size w).alloc (Nat.le_refl _) (.cells (iA Itm.zero) 68))
  clear hR
  cases hh : hitI l id
  · have e := getI_miss hr hh
    have et : toI l id = posI l id := by unfold toI; rw [hh]; rfl
    rw [e]
    rw [et] at S
    clear hr hh
    obtain ⟨oa, cap, rfl⟩ := LR.out.val
    have hk := pos_le l id
    clear e et
    generalize posI l id = k at *
    go_enter Tryz.func114, Tryz.ntmps114
    go_wp2_with (go_at_call 172; refine S.out.mono ?_; rintro e w' ⟨rfl, hb⟩; replace OT := Lib.hid (OT.out.later hb); replace BEL := Lib.hid (BEL.out.trans (hb.mono BEL.out.size)); have l1 := OT.out.cell; have f1 := OT.out.free; have z1 := OT.out.lt)
    have key := And.intro (st8_own OT.out (.string ⟨#[]⟩) (.int .i64 0) (.int .i64 0) (.int .i64 0) (.string ⟨#[]⟩) (.int .i64 0) (.complex .f64 0 0) (.bool false)) (st8_below (b := w.heap.size) BEL.out (Nat.le_refl _) (.string ⟨#[]⟩) (.int .i64 0) (.int .i64 0) (.int .i64 0) (.string ⟨#[]⟩) (.int .i64 0) (.complex .f64 0 0) (.bool false))
    unfold st8 at key
    revert key
    generalize World.setCell (World.setCell (World.setCell (World.setCell (World.setCell (World.setCell (World.setCell (World.setCell _ _ _) _ _) _ _) _ _) _ _) _ _) _ _) _ _ = WW
    rintro ⟨of, bf⟩
    exact ret_cell_tmp (by rfl) (by rfl) (by rfl) (l := ic Itm.zero) of.range Tryz.underlying68 (by rfl) (by kernel_rfl) rfl ⟨rfl, bf⟩
  · obtain ⟨i, hi, e⟩ := getI_hit hr hh
    have et : toI l id = posI l id + 1 := by unfold toI; rw [hh]; rfl
    rw [e]
    rw [et] at S
    clear hr hh
    obtain ⟨oa, cap, b, o, rfl, hL⟩ := LR.out
    have hk := some_posI hi
    clear e et
    generalize posI l id = k at *
    obtain ⟨rfl, hb0⟩ := hL.at0 (by omega)
    have cs := fun j u hu => hL.cell k i hi j u hu
    have k0 : (0 : Int) ≤ (k : Int) := by omega
    have k1 : (k : Int) < (l.length : Int) := by omega
    have CS := Lib.hid cs
    have hne : decide ((k : Int) = (k : Int) + 1) = false := decide_eq_false (by omega)
    have hne2 : ((k : Int) == (k : Int) + 1) = false := by rw [beq_eq_false_iff_ne]; omega
    clear cs hL
    go_enter Tryz.func114, Tryz.ntmps114
    go_wp2_with (go_at_call 172; refine S.out.mono ?_; rintro e w' ⟨rfl, hb⟩; obtain ⟨c0, c1, c2, c3, c4, c5, c6, c7⟩ := ic_cells (w := w') (fun j u hu => (hb.cell (p := ⟨b, o + k * 8 + j, none⟩) hb0).trans (CS.out j u hu)); have zb := Nat.lt_of_lt_of_le hb0 hb.size; replace OT := Lib.hid (OT.out.later hb); replace BEL := Lib.hid (BEL.out.trans (hb.mono BEL.out.size)); have l1 := OT.out.cell; have f1 := OT.out.free; have z1 := OT.out.lt)
    have key := And.intro (st8_own OT.out (.string i.id) (.int .i64 i.r) (.int .i64 i.c) (.int .i64 i.st) (.string i.kd) (.int .i64 i.num) (.complex .f64 i.x i.y) (.bool i.d)) (st8_below (b := w.heap.size) BEL.out (Nat.le_refl _) (.string i.id) (.int .i64 i.r) (.int .i64 i.c) (.int .i64 i.st) (.string i.kd) (.int .i64 i.num) (.complex .f64 i.x i.y) (.bool i.d))
    unfold st8 at key
    revert key
    generalize World.setCell (World.setCell (World.setCell (World.setCell (World.setCell (World.setCell (World.setCell (World.setCell _ _ _) _ _) _ _) _ _) _ _) _ _) _ _) _ _ = WW
    rintro ⟨of, bf⟩
    exact ret_cell_tmp (by rfl) (by rfl) (by rfl) (l := ic i) of.range Tryz.underlying68 (by rfl) (by kernel_rfl) rfl ⟨rfl, bf⟩
end Go.Proofs.YthbjgfennclidaaGreat
/- What the arguments of the laws read as: numbers, fields. -/
namespace Go.Proofs.YthbjgfennclidaaGreat
set_option linter.unusedVariables false
set_option linter.unusedSimpArgs false
set_option maxRecDepth 100000
open Go.ChangeShapes Go.WideShapes Go.ChangeAt Go.RowKit Go.Deep
section
variable {H : Type} {enc : TypeId × Value → H} {P : Program} {w : World} {base : Nat} {spare : Nat → Bool} {held : Bool} {fuel : Nat} {t : TypeId} {cs : List Value} {x : DataW H × List MemPlace}
theorem trod_float {k : FloatKind} (ht : P.underlying t = some (.float k)) (h : DataW.trod enc P w base spare held fuel t cs = some x) : ∃ n, cs = [.float k n] := by
  cases fuel with
  | zero => simp [DataW.trod] at h
  | succ n =>
    unfold DataW.trod at h
    rw [ht] at h
    split at h <;> simp_all
theorem field_at {fs : Array Field} (hone : oneCellFields P fs = true) {n : Nat} {xs : List (DataW H × List MemPlace)} (hl : cs.length = fs.size) (hxl : xs.length = fs.size)
    (hf : ∀ (i : Nat) (f : Field), fs[i]? = some f → DataW.trod enc P w base spare held n f.type ((cs.drop f.offset).take (P.cellsOf f.type)) = xs[i]?)
    (i : Nat) (f : Field) (hi : fs[i]? = some f) : ∃ c y, cs[i]? = some c ∧ DataW.trod enc P w base spare held n f.type [c] = some y := by
  have hlt : i < fs.size := (Array.getElem?_eq_some_iff.1 hi).1
  have h1 := hf i f hi
  obtain ⟨o, k⟩ := hone_of hone i f hi
  rw [o, k, List.drop_eq_getElem_cons (by omega)] at h1
  exact ⟨cs[i], xs[i]'(by omega), List.getElem?_eq_getElem (by omega), h1.trans (List.getElem?_eq_getElem (by omega))⟩
end
end Go.Proofs.YthbjgfennclidaaGreat
/- The code's list.Put, Drop. Walked. -/
namespace Go.Proofs.YthbjgfennclidaaGreat
set_option linter.unusedVariables false
set_option linter.unusedSimpArgs false
set_option maxRecDepth 100000
open Go.RowKit
theorem add_none (b o n : Nat) : (⟨b, o, none⟩ : Addr).add n = ⟨b, o + n, none⟩ := by
  unfold Addr.add; split <;> simp_all
theorem Row.slice {w : World} {l : List Itm} {oa : Option Addr} {n cap : Nat} (h : Row 8 ic w l (.slice oa n cap)) (t : Nat) (ht : t ≤ l.length) : Row 8 ic w (l.drop t) (.slice (Option.map (fun x => x.add (t * 8)) oa) (n - t) (cap - t)) := by
  obtain ⟨oa', cap', b, o, e, h⟩ := h
  cases e
  have hc := h.len
  have hm := h.max
  refine ⟨_, cap - t, b, o + t * 8, by rw [List.length_drop], by rw [List.length_drop]; omega, by omega, fun h0 => ?_, fun k i hk j u hu => ?_, fun i hi => h.ok i (List.mem_of_mem_drop hi)⟩
  · rw [List.length_drop] at h0
    obtain ⟨rfl, hb⟩ := h.at0 (by omega)
    exact ⟨by simp only [Option.map_some, add_none], hb⟩
  · rw [List.getElem?_drop] at hk
    have := h.cell (t + k) i hk j u hu
    rw [show o + t * 8 + k * 8 + j = o + (t + k) * 8 + j by omega]
    exact this
theorem Row.none {w : World} {l : List Itm} {oa : Option Addr} {n cap : Nat} (h : Row 8 ic w l (.slice oa n cap)) : Row 8 ic w (l.drop cap) (.slice oa 0 0) := by
  obtain ⟨oa', cap', b, o, e, h⟩ := h
  cases e
  have hc := h.len
  have e : l.drop cap = [] := List.drop_eq_nil_of_le hc
  rw [e]
  exact ⟨_, 0, b, o, rfl, Nat.le_refl _, by decide, fun h0 => by simp at h0, fun k i hk => by simp at hk, fun i hi => by simp at hi⟩
end Go.Proofs.YthbjgfennclidaaGreat
/- Drawn regions in a round: what holds outside one holds in one, where nothing is deferred. -/
namespace Go.Proofs.YthbjgfennclidaaGreat
set_option linter.unusedVariables false
set_option linter.unusedSimpArgs false
set_option maxRecDepth 100000
open Go Go.RowKit
section
variable {P : Program} {ops : Array Oper} {Q : Exit → Act → World → Prop} {md : Region.Mode} {l n : Nat}
theorem liftO {o : Oper} {K : Act → World → Prop} {a : Act} {w : World} (hd : ∀ c, o.op ≠ .defer c) (h : o.wp P a w K Q) : o.wpIn (Fence.wide.inRound l) n P a w K Q := by
  refine ⟨fun _ _ => trivial, ?_⟩
  rw [show (Fence.wide.inRound l).round = some l from rfl, Oper.semAt_some l _ _ hd]
  unfold Oper.wp at h
  generalize (execOp a.eval o).run P w = r at h ⊢
  unfold Oper.upon at h
  unfold Oper.uponIn
  split at h
  · exact h
  · exact h
  · exact h
  · exact ⟨(fun e => by cases e), CallsIn.inRound l (callsIn_wide.2 h)⟩
  · exact ⟨(fun e => by cases e), fun c cs _ => let ⟨v, w', r, s⟩ := h c cs; ⟨v, w', r, stepsIn_wide.2 s⟩⟩
  · exact h
  · exact h.elim
theorem liftOp {i : Nat} {K K' : Act → World → Prop} {a : Act} {w : World} (hL : ¬ LetsOut Q) (hd : ∀ (i : Nat) (o : Oper) c, ops[i]? = some o → o.op ≠ .defer c) (hk : ∀ a w, K a w → K' a w) (h : wpOp P ops Q i K a w) : wpOpIn (Fence.wide.inRound l) n P ops Q i K' a w := by
  refine wpOpIn_mono hk ?_
  unfold wpOp at h
  unfold wpOpIn
  cases ho : ops[i]? with
  | none => rw [ho] at h; exact h
  | some o =>
    rw [ho] at h
    dsimp only at h ⊢
    split at h
    · rename_i hw
      rw [if_pos hw]
      exact liftO (fun c => hd i o c ho) (h.resolve_right fun h => hL h.2)
    · rename_i hw
      rw [if_neg hw]
      exact ⟨fun _ _ => trivial, h⟩
theorem liftAny (hL : ¬ LetsOut Q) (hd : ∀ (i : Nat) (o : Oper) c, ops[i]? = some o → o.op ≠ .defer c) : ∀ (f : Nat) {m : Array Bool} {a : Act} {w : World}, wpAny P md ops Q f m a w → wpAnyIn (Fence.wide.inRound l) n P md ops Q f m a w := by
  intro f
  induction f with
  | zero => intro m a w h; exact h
  | succ f ih => intro m a w h; exact ⟨h.1, fun i hi => liftOp hL hd (fun _ _ => ih) (h.2 i hi)⟩
theorem monoN_startIn {T : Nat → Prop} {D : Nat → Bool} {id : Nat} {a : Act} {w : World} (hm : P.follows .mixedOrders = true) (hL : ¬ LetsOut Q) (hd : ∀ (i : Nat) (o : Oper) c, ops[i]? = some o → o.op ≠ .defer c)
    (h : ∀ w1, Later w w1 → monoN P .any ops Q T D ops.size (Array.replicate ops.size false) a w1) : (Code.region id ops true).wpIn (Fence.wide.inRound l) n P Q a w :=
  wpIn_region_any hm (liftAny hL hd _ (monoN_any _ (h _ (Below.refl _ _).drew)))
theorem listIn {r : List Oper} (hL : ¬ LetsOut Q) (hd : ∀ o ∈ r, ∀ c, o.op ≠ .defer c) : ∀ {a : Act} {w : World}, wpList P ops Q r a w → wpListIn (Fence.wide.inRound l) n P ops Q r a w := by
  induction r with
  | nil => intro a w h; exact h
  | cons o r ih =>
    intro a w h
    unfold wpList at h
    unfold wpListIn
    split at h
    · rename_i hw
      rw [if_pos hw]
      exact Oper.wpIn_mono (fun _ _ => ih (fun o ho => hd o (List.mem_cons_of_mem _ ho))) (liftO (hd o (List.mem_cons_self)) (h.resolve_right fun h => hL h.2))
    · rename_i hw
      rw [if_neg hw]
      exact ⟨fun _ _ => trivial, ih (fun o ho => hd o (List.mem_cons_of_mem _ ho)) h⟩
theorem region_litIn {id : Nat} {r : List Oper} {a : Act} {w : World} (hL : ¬ LetsOut Q) (hd : ∀ o ∈ r, ∀ c, o.op ≠ .defer c) (h : wpList P r.toArray Q r a w) : (Code.region id r.toArray false).wpIn (Fence.wide.inRound l) n P Q a w :=
  wpIn_region_lit (listIn hL hd h)
end
end Go.Proofs.YthbjgfennclidaaGreat
