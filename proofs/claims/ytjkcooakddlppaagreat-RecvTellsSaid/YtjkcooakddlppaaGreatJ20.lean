/- Joined: VecMax, LConc, VecHas, RegE. -/
import Derived.Test.YtjkcooakddlppaaGreatJ18
import Derived.Test.YtjkcooakddlppaaGreatJ06
import Derived.Test.YtjkcooakddlppaaGreatJ16
import Derived.Shelf.Spec.SlicesGrow
import Derived.Lib.AppendZeros
import Derived.Test.YtjkcooakddlppaaGreatJ19
import Derived.Deep.RegionHeld
/- Counts of replicas: the code's own Max, walked. -/
namespace Go.Proofs.YtjkcooakddlppaaGreat
set_option linter.unusedVariables false
set_option linter.unusedSimpArgs false
set_option maxRecDepth 100000
open Go.RowKit
def mx8 (A B : Nat → Int) (k : Nat) (j : Nat) : Int := if j < k then maxV A B j else A j
theorem mx8_zero (A B : Nat → Int) : arr8 A = arr8 (mx8 A B 0) := arr_congr fun j _ => by unfold mx8; rw [if_neg (by omega)]
theorem mx8_whole (A B : Nat → Int) : arr8 (mx8 A B 8) = arr8 (maxV A B) := arr_congr fun j h => by unfold mx8; rw [if_pos h]
theorem mx8_put (A B : Nat → Int) {k : Nat} {v : Int} (hv : v = maxV A B k) : arr8 (fun j => if j = k then v else mx8 A B k j) = arr8 (mx8 A B (k + 1)) := arr_congr fun j _ => by
  unfold mx8
  by_cases e : j = k
  · subst e; rw [if_pos rfl, if_pos (by omega)]; exact hv
  · rw [if_neg e]
    by_cases h : j < k
    · rw [if_pos h, if_pos (by omega)]
    · rw [if_neg h, if_neg (by omega)]
structure CMx (A B : Nat → Int) (k : Nat) (w wr : World) : Prop where
  o1 : Own wr w.heap.size (arr8 (mx8 A B k)) 28
  o2 : Own wr (w.heap.size + 1) (arr8 B) 28
  o3 : Own wr (w.heap.size + 1 + 1) (arr8 fun _ => 0) 28
  bel : Below w.heap.size w wr
def CMxRel (A B : Nat → Int) (w : World) (i : Value) (wr : World) : Prop := ∃ k : Nat, k ≤ 8 ∧ i = .int .i64 k ∧ Hid (CMx A B k w wr)
set_option maxRecDepth 100000 in
set_option maxHeartbeats 4000000 in
theorem vecMax_calls (A B : Nat → Int) (w : World) :
    Calls Tryz.prog 168 #[vecV A, vecV B] w fun e w' => e = .returned (vecV (maxV A B)) ∧ Below w.heap.size w w' := by
  have I0 : CMx A B 0 w (((w.alloc (.cells (arr8 A) 28)).alloc (.cells (arr8 B) 28)).alloc (.cells (arr8 fun _ => 0) 28)) :=
    ⟨by rw [← mx8_zero]; exact ((Own.new w _ _).alloc _).alloc _, (Own.newAt _ _ _ (by simp)).alloc _, Own.newAt _ _ _ (by simp), (((Below.refl _ _).alloc (Nat.le_refl _) _).alloc (by simp) _).alloc (by simp; omega) _⟩
  have HI0 := Lib.hid I0
  clear I0
  go_enter Tryz.func168, Tryz.ntmps168
  go_wp2_with fail
  go_loopw [8] (fun i wr => CMxRel A B w i wr) (fun i _ => 8 - (intOf i).toNat)
  case atStart => exact ⟨0, by omega, rfl, HI0⟩
  case round =>
    clear HI0
    obtain ⟨k, hk, rfl, HP⟩ := hrel
    by_cases hlt : k < 8
    · have ix := fun w => idx8 B hlt w
      have ca := (HP.out.o1.cell k).trans (arr_get (mx8 A B k) hlt)
      rw [show mx8 A B k k = A k by unfold mx8; rw [if_neg (by omega)]] at ca
      have fa := HP.out.o1.free k
      have z1 := HP.out.o1.lt
      have k0 : (0 : Int) ≤ (k : Int) := by omega
      have k1 : (k : Int) < 8 := by omega
      have HN : ∀ v, v = maxV A B k → Hid (CMx A B (k + 1) w (wr.setCell ⟨w.heap.size, k, none⟩ (.int .i64 v))) := fun v hv => Lib.hid (by
        refine ⟨?_, HP.out.o2.setFar _ _ (by show w.heap.size + 1 ≠ w.heap.size; omega), HP.out.o3.setFar _ _ (by show w.heap.size + 1 + 1 ≠ w.heap.size; omega), HP.out.bel.setCell (p := ⟨w.heap.size, k, none⟩) (Nat.le_refl _) _⟩
        rw [← mx8_put A B hv, ← arr_set _ hlt]
        exact HP.out.o1.set k _)
      by_cases h : A k < B k
      · have g : decide (A k < B k) = true := decide_eq_true h
        have HR := HN (B k) (by unfold maxV; rw [if_pos h])
        clear HN
        go_wp2_with fail
        go_roundw
        case rel => first | exact ⟨k + 1, by omega, by go_num, HR⟩ | exact ⟨k + 1, by omega, by go_num, by rw [show max (A k) (B k) = B k by omega]; exact HR⟩
        case measure => simp [intOf]; omega
      · have g : decide (A k < B k) = false := decide_eq_false h
        have HR := HN (A k) (by unfold maxV; rw [if_neg h])
        clear HN
        go_wp2_with fail
        go_roundw
        case rel => first | exact ⟨k + 1, by omega, by go_num, HR⟩ | exact ⟨k + 1, by omega, by go_num, by rw [show max (A k) (B k) = A k by omega]; exact HR⟩
        case measure => simp [intOf]; omega
    · have e : k = 8 := by omega
      subst e
      have o1 := HP.out.o1
      rw [mx8_whole] at o1
      have l3 := HP.out.o3.cell
      have f3 := HP.out.o3.free
      have z3 := HP.out.o3.lt
      have l4 := o1.cell
      have z4 := o1.lt
      have BEL := Lib.hid HP.out.bel
      go_wp2_with fail
      have key := And.intro (st8_own HP.out.o3 (.int .i64 ((maxV A B) 0)) (.int .i64 ((maxV A B) 1)) (.int .i64 ((maxV A B) 2)) (.int .i64 ((maxV A B) 3)) (.int .i64 ((maxV A B) 4)) (.int .i64 ((maxV A B) 5)) (.int .i64 ((maxV A B) 6)) (.int .i64 ((maxV A B) 7))) (st8_below (b := w.heap.size + 1 + 1) BEL.out (by omega) (.int .i64 ((maxV A B) 0)) (.int .i64 ((maxV A B) 1)) (.int .i64 ((maxV A B) 2)) (.int .i64 ((maxV A B) 3)) (.int .i64 ((maxV A B) 4)) (.int .i64 ((maxV A B) 5)) (.int .i64 ((maxV A B) 6)) (.int .i64 ((maxV A B) 7)))
      clear l3 f3 z3 l4 z4
      unfold st8 at key
      revert key
      generalize World.setCell (World.setCell (World.setCell (World.setCell (World.setCell (World.setCell (World.setCell (World.setCell _ _ _) _ _) _ _) _ _) _ _) _ _) _ _) _ _ = WW
      rintro ⟨of, bf⟩
      have lf := of.cell
      refine bodyPost_ret (v := vecV ((maxV A B))) (by simp [results, Tryz.results168, go_sem, lf]) rfl ⟨rfl, bf⟩
end Go.Proofs.YtjkcooakddlppaaGreat
/- Lists of items, one behind the other: slices.Concat, walked over the library's contract of slices.Grow, laid at this program; items that lie there appended. -/
namespace Go.Proofs.YtjkcooakddlppaaGreat
set_option linter.unusedVariables false
set_option linter.unusedSimpArgs false
set_option maxRecDepth 100000
open Go.RowKit
def growI_ren : Go.Shelf.Ren := ⟨fun | 4 => 149 | n => n,
  fun | 22 => 44 | 25 => 49 | 3 => 3 | 4 => 4 | 9 => 9 | 20 => 20 | 0 => 0 | n => n,
  fun | n => n⟩
theorem growI : Go.Proofs.Lays8.n4 Tryz.prog growI_ren := {
  mixed := by kernel_rfl,
  f4 := ⟨Tryz.f149.name, by decide, Tryz.func149.trans (congrArg some (by kernel_rfl))⟩,
  t0 := Tryz.underlying0,
  a0 := Tryz.isAgg0,
  z0 := Tryz.sizeOf0,
  v0 := Tryz.zeroValue0,
  t3 := Tryz.underlying3,
  a3 := Tryz.isAgg3,
  z3 := Tryz.sizeOf3,
  v3 := Tryz.zeroValue3,
  t4 := Tryz.underlying4,
  a4 := Tryz.isAgg4,
  z4 := Tryz.sizeOf4,
  v4 := Tryz.zeroValue4,
  t9 := Tryz.underlying9,
  a9 := Tryz.isAgg9,
  z9 := Tryz.sizeOf9,
  v9 := Tryz.zeroValue9,
  t20 := Tryz.underlying20,
  a20 := Tryz.isAgg20,
  z20 := Tryz.sizeOf20,
  v20 := Tryz.zeroValue20,
  t22 := Tryz.underlying44,
  a22 := Tryz.isAgg44,
  z22 := Tryz.sizeOf44,
  v22 := Tryz.zeroValue44 }
theorem growI_calls (n : Nat) (hn : n ≤ 20000) (w : World) :
    Calls Tryz.prog 149 #[.slice none 0 0, .int .i64 n] w fun e w' => ∃ v, e = .returned v ∧ OwnI w' w.heap.size [] v ∧ Below w.heap.size w w' := by
  obtain ⟨j0, hj, hy0, hy1, hy2⟩ := info_parts info_item
  by_cases h0 : n = 0
  · subst h0
    refine (Any8.slices_Grow_room growI none 0 0 0 w (by omega) (by omega) (by omega) (by omega)).mono ?_
    rintro e w' ⟨rfl, rfl⟩
    exact ⟨_, rfl, OwnI.nil _ _, Below.refl _ _⟩
  · refine (Any8.slices_Grow_grow growI j0 _ hj hy0 (by rw [hy1]; omega) none 0 0 n [] w (by omega) (by omega) (by rw [hy2]; omega) (by omega) (by simp) (fun _ => rfl) (fun a h => by cases h)).mono ?_
    rintro e w' ⟨rfl, rfl⟩
    have hge := grownCap_ge w (0 + n) 0 (growI_ren.t 25)
    have hle := grownCap_le_maxLen w (0 + n) 0 (growI_ren.t 25) (by unfold maxLen; omega)
    refine ⟨_, rfl, ⟨by simp [cellsI], .inr ⟨w.heap.size, _, _, rfl, Nat.le_refl _, heap_alloc_new w.drew _, by simp, hle, ?_, by simp [cellsI]⟩⟩, (Below.refl _ _).drew.alloc (Nat.le_refl _) _⟩
    simp only [Array.size_append, List.size_toArray, size_zeroCells, List.length_nil, Nat.zero_add, Nat.sub_zero]
    rw [← Nat.add_mul]
    rw [show (Value.cells (.agg #[.string ⟨#[]⟩, .int .i64 0, .int .i64 0, .int .i64 0, .string ⟨#[]⟩, .int .i64 0, .complex .f64 0 0, .bool false])).size = 8 from rfl]
    congr 1
    simp only [Nat.zero_add] at hge
    omega
theorem storeNoneI (a : Addr) (w : World) : (storeCells a []).run Tryz.prog w = .ok () w := by simp [storeCells]
theorem run_append_zeroI (ty : TypeId) (base oa : Option Addr) (n cap c : Nat) (hn : n ≤ cap) (w : World) :
    (Builtin.append_ #[44, 44] ty #[.slice base n cap, .slice oa 0 c]).run Tryz.prog w = .ok (.slice base n cap) w := by
  obtain ⟨j0, hj, hy0, hy1, hy2⟩ := info_parts info_item
  have hf : (Builtin.firstCells j0.size 0 (.slice oa 0 c)).run Tryz.prog w = .ok #[] w := by
    cases oa with
    | none => exact run_firstCells_none w _ _ _ _
    | some a => exact run_firstCells_some w j0.size 0 a 0 c [] (by simp) (fun j v h => by simp at h)
  cases base with
  | none => simp [Builtin.append_, run_underlying Tryz.underlying44, sizeOf, typeInfo, hj, Builtin.lenOf, hn, hf, Result.andThen]
  | some a => simp [Builtin.append_, run_underlying Tryz.underlying44, sizeOf, typeInfo, hj, Builtin.lenOf, hn, hf, storeNoneI, Result.andThen]
theorem cellsI_one8 (l : List Itm) : ∀ u ∈ cellsI l, u.oneCell' = true := by
  intro u hu
  unfold cellsI at hu
  obtain ⟨i, _, hi⟩ := List.mem_flatMap.1 hu
  exact itI_one i u hi
theorem run_append_items (ty : TypeId) {w : World} {base : Nat} {v sv : Value} {l m : List Itm} (hown : OwnI w base l v) (hM : Row 8 ic w m sv) (hn : l.length + m.length ≤ 30000) (hbase : base ≤ w.heap.size) :
    ∃ v' w', (Builtin.append_ #[44, 44] ty #[v, sv]).run Tryz.prog w = .ok v' w' ∧ OwnI w' base (l ++ m) v' ∧ w.grownBy w' v.ownBlock := by
  obtain ⟨oa, cap, b, o, rfl, h⟩ := hM
  obtain ⟨j0, hj, hy0, hy1, hy2⟩ := info_parts info_item
  by_cases h0 : m.length = 0
  · have e : m = [] := List.length_eq_zero_iff.1 h0
    subst e
    obtain ⟨ov, cv, gv, e, h1, _⟩ := row_slice hown
    subst e
    refine ⟨_, w, run_append_zeroI ty ov oa l.length cv cap h1 w, ?_, ⟨rfl, rfl, rfl, Nat.le_refl _, fun _ _ _ => rfl⟩⟩
    rw [List.append_nil]; exact hown
  · obtain ⟨rfl, hb⟩ := h.at0 (by omega)
    obtain ⟨v', w', r1, r2, r3, _⟩ := run_append_own w base 44 ty 49 j0 _ 8 88 Tryz.underlying44 hj hy0 hy1 hy2 rfl (by omega) v l.length (cellsI l) hown ⟨b, o, none⟩ m.length cap (cellsI m) (cellsI_len m) (rowI_news h rfl) (cellsI_one8 m) (by unfold maxLen; omega) (by omega) hbase
    refine ⟨v', w', r1, ?_, r3⟩
    unfold OwnI
    rw [cellsI_append, List.length_append]
    exact r2
/-! ### Slices of slices that lie there -/
structure SrcI (N : Nat) (w : World) (L : Nat → List Itm) (V : Nat → Value) (bs : Nat) : Prop where
  lt : bs < w.heap.size
  cell : ∀ k, k < N → w.cell? ⟨bs, k, none⟩ = some (V k)
  lies : ∀ k, k < N → Row 8 ic w (L k) (V k)
  len : ∀ k, k < N → (L k).length ≤ 2000
def catI (L : Nat → List Itm) : Nat → List Itm
  | 0 => []
  | k + 1 => catI L k ++ L k
theorem SrcI.tot {N : Nat} {w : World} {L : Nat → List Itm} {V : Nat → Value} {bs : Nat} (h : SrcI N w L V bs) : ∀ k, k ≤ N → (catI L k).length ≤ 2000 * k := by
  intro k
  induction k with
  | zero => intro _; simp [catI]
  | succ k ih =>
    intro hk
    have h1 := ih (by omega)
    have h2 := h.len k (by omega)
    simp only [catI, List.length_append]; omega
def SumI (N : Nat) (L : Nat → List Itm) (w0 : World) (s i : Value) (wr : World) : Prop := ∃ k : Nat, k ≤ N ∧ i = .int .i64 k ∧ s = .int .i64 (catI L k).length ∧ Hid (w0 = wr)
def CatR (N : Nat) (L : Nat → List Itm) (w0 : World) (v i : Value) (wr : World) : Prop :=
  ∃ k : Nat, k ≤ N ∧ i = .int .i64 k ∧ Hid (OwnI wr w0.heap.size (catI L k) v) ∧ Hid (Below w0.heap.size w0 wr)
set_option maxRecDepth 100000 in
set_option maxHeartbeats 4000000 in
theorem concatI_walk (N : Nat) (hN : N ≤ 5) (L : Nat → List Itm) (V : Nat → Value) (bs : Nat) (w : World) (hS : SrcI N w L V bs) :
    Calls Tryz.prog 97 #[.slice (some ⟨bs, 0, none⟩) N N] w fun e w' => ∃ v, e = .returned v ∧ OwnI w' w.heap.size (catI L N) v ∧ Below w.heap.size w w' := by
  have HS := Lib.hid hS
  have G := fun w' => Lib.hid (growI_calls (catI L N).length (by have := HS.out.tot N (Nat.le_refl _); omega) w')
  clear hS
  go_enter Tryz.func97, Tryz.ntmps97
  go_wp2_with fail
  go_loopw [3, 11] (fun s i wr => SumI N L w s i wr) (fun _ i _ => N - (intOf i).toNat)
  case atStart => exact ⟨0, by omega, rfl, rfl, rfl⟩
  case round =>
    obtain ⟨k, hk, rfl, rfl, hw⟩ := hrel
    have ew := hw.out
    subst ew
    clear hw
    by_cases hlt : k < N
    · obtain ⟨oa, cap, hV⟩ := (HS.out.lies k hlt).val
      have cv := HS.out.cell k hlt
      rw [hV] at cv
      have zb := HS.out.lt
      have t1 := HS.out.tot k hk
      have t2 := HS.out.len k hlt
      have t3 : (catI L (k + 1)).length = (catI L k).length + (L k).length := by simp [catI]
      have k0 : (0 : Int) ≤ (k : Int) := by omega
      have k1 : (k : Int) < (N : Int) := by omega
      have HT := Lib.hid t3
      clear t3 hV
      generalize (L k).length = m at *
      generalize ht : (catI L k).length = t at *
      have hneg : decide (((t : Int) + (m : Int)) < 0) = false := decide_eq_false (by omega)
      go_wp2_with fail
      go_roundw
      case rel => exact ⟨k + 1, by omega, by go_num, by rw [HT.out]; go_num, rfl⟩
      case measure => simp [intOf]; omega
    · have e : k = N := by omega
      subst e
      go_wp2_with (go_at_call 149; refine (G _).out.mono ?_; rintro e w1 ⟨v0, rfl, hr0, hb0⟩)
      have C0 : CatR k L w v0 (.int .i64 0) w1 := ⟨0, by omega, rfl, hr0, hb0⟩
      clear hr0 hb0
      go_loopw [6, 27] (fun v i wr => CatR k L w v i wr) (fun _ i _ => k - (intOf i).toNat)
      case atStart => exact C0
      case round =>
        clear C0
        obtain ⟨q, hq, rfl, HR, HB⟩ := hrel
        by_cases hlt : q < k
        · have LR := (HS.out.lies q hlt).later HB.out
          obtain ⟨oa, cap, hV⟩ := LR.val
          have cv := (HB.out.cell (p := ⟨bs, q, none⟩) HS.out.lt).trans (HS.out.cell q hlt)
          rw [hV] at cv LR
          have zb : bs < wr.heap.size := Nat.lt_of_lt_of_le HS.out.lt HB.out.size
          have t1 := HS.out.tot q hq
          have t2 := HS.out.len q hlt
          have k0 : (0 : Int) ≤ (q : Int) := by omega
          have k1 : (q : Int) < (k : Int) := by omega
          have HA := Lib.hid (fun ty => run_append_items ty HR.out LR (by omega) HB.out.size)
          obtain ⟨ov, cvv, hrv⟩ := HR.out.len
          subst hrv
          clear LR hV
          go_wp2_with (at_builtin; obtain ⟨v', w', hrun, hown, hgr⟩ := HA.out _; refine Lib.wpList_append_run _ rfl _ _ _ _ rfl _ _ rfl rfl _ _ hrun ?_)
          have HB2 := Lib.hid (below_push HR.out HB.out (Nat.le_refl _) hgr HB.out.size)
          go_roundw
          case rel => exact ⟨q + 1, by omega, by go_num, hown, HB2⟩
          case measure => simp [intOf]; omega
        · have e : q = k := by omega
          subst e
          go_wp2_with fail
          go_ret
          exact ⟨_, rfl, HR.out, HB.out⟩
end Go.Proofs.YtjkcooakddlppaaGreat
/- Counts of replicas: the code's own Has, walked. -/
namespace Go.Proofs.YtjkcooakddlppaaGreat
set_option linter.unusedVariables false
set_option linter.unusedSimpArgs false
set_option maxRecDepth 100000
open Go.RowKit
set_option maxRecDepth 100000 in
set_option maxHeartbeats 2000000 in
theorem vecHas_calls (A : Nat → Int) (r c : Int) (w : World) :
    Calls Tryz.prog 71 #[vecV A, .agg #[.int .i64 r, .int .i64 c]] w fun e w' => e = .returned (.bool (hasV A r c)) ∧ Below w.heap.size w w' := by
  have G1 := Lib.hid ((Has.new w (arr8 A) 28).alloc (.cells #[.int .i64 r, .int .i64 c] 37))
  have G2 := Lib.hid ((Own.newAt (w.alloc (.cells (arr8 A) 28)) #[.int .i64 r, .int .i64 c] 37 (b := w.heap.size + 1) (by simp)).has)
  have LA := fun dd os o => G1.out.regrown dd os o
  have LB := fun dd os o => G2.out.regrown dd os o
  have m := fun dd os => Lib.hid (Calls.regrown_of (replica_quiet r (Sort.grow (redrawn ((w.alloc (.cells (arr8 A) 28)).alloc (.cells #[.int .i64 r, .int .i64 c] 37)) dd) os)))
  by_cases h : r < 1 ∨ 8 < r
  · have E := Lib.hid (has_out (A := A) (c := c) h)
    have e := rep_no h
    clear h
    rw [e] at m
    clear e
    cases hg : decide (1 ≤ c)
    all_goals
      go_enter Tryz.func71, Tryz.ntmps71
      go_wp2_with fail
      refine wp_region_quiet_below (by kernel_rfl) (by kernel_rfl) ?_
      repeat (first | go_big_quiet_step ((with_reducible exact (m _ _).out)) | quiet_step (with_reducible exact (m _ _).out))
      refine wpQuiet_nil ?_
      intro w7 hw'
      have hb' := Lib.hid (regrown_below hw')
      clear hw'
      go_wp2_with fail
      go_ret
      exact ⟨ret_bool E.out.symm, below_new (below_new hb'.out)⟩
  · obtain ⟨k, rfl⟩ : ∃ k : Nat, r = (k : Int) + 1 := ⟨(r - 1).toNat, by omega⟩
    have hk : k < 8 := by omega
    clear h
    have e := rep_yes hk
    rw [e] at m
    clear e
    have E := Lib.hid (show hasV A ((k : Int) + 1) c = (decide (1 ≤ c) && decide (c ≤ A k)) by unfold hasV; rw [cnt_in hk])
    have g3 : (k : Int) + 1 - 1 = (k : Int) := by omega
    have LC := fun dd os => (G1.out.regrown dd os k).trans (arr_get A hk)
    clear LA
    have k0 : (0 : Int) ≤ (k : Int) := by omega
    have k1 : (k : Int) < 8 := by omega
    generalize hasV A ((k : Int) + 1) c = R at *
    cases hg : decide (1 ≤ c)
    all_goals
      go_enter Tryz.func71, Tryz.ntmps71
      go_wp2_with fail
      refine wp_region_quiet_below (by kernel_rfl) (by kernel_rfl) ?_
      repeat (first | go_big_quiet_step ((with_reducible exact (m _ _).out)) | quiet_step (with_reducible exact (m _ _).out))
      refine wpQuiet_nil ?_
      intro w7 hw'
      have hb' := Lib.hid (regrown_below hw')
      clear hw'
      go_wp2_with fail
      go_ret
      exact ⟨ret_bool (by rw [E.out, hg]; simp), below_new (below_new hb'.out)⟩
end Go.Proofs.YtjkcooakddlppaaGreat
/- Drawn regions whose last operations store where others loaded, as RegD, with what no operation changes (T) beside what the late ones change (S). No walk. -/
namespace Go.Proofs.YtjkcooakddlppaaGreat
set_option linter.unusedVariables false
set_option linter.unusedSimpArgs false
set_option maxRecDepth 100000
open Go
section
variable {P : Program} {ops : Array Oper} {Q : Exit → Act → World → Prop} {md : Region.Mode} {S T : World → Prop} {D : Nat → Bool}
end
end Go.Proofs.YtjkcooakddlppaaGreat
