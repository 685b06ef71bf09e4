/- Lists of items, one behind the other: slices.Concat, walked over the library's contract of slices.Grow, laid at this program; items that lie there appended. -/
import Derived.Test.YtbojpdlidgmckaaLCM
import Derived.Shelf.Spec.SlicesGrow
import Derived.Lib.AppendZeros
namespace Go.Proofs.Ytbojpdlidgmckaa
set_option linter.unusedVariables false
set_option linter.unusedSimpArgs false
open Go.RowKit

def growI_ren : Go.Shelf.Ren := ⟨fun | 4 => 41 | n => n,
  fun | 22 => 28 | 25 => 34 | 3 => 3 | 4 => 4 | 9 => 9 | 20 => 20 | 0 => 0 | n => n,
  fun | n => n⟩
theorem growI : Go.Proofs.Lays8.n4 Try.prog growI_ren := {
  mixed := by kernel_rfl,
  f4 := ⟨Try.f41.name, by decide, Try.func41.trans (congrArg some (by kernel_rfl))⟩,
  t0 := Try.underlying0,
  a0 := Try.isAgg0,
  z0 := Try.sizeOf0,
  v0 := Try.zeroValue0,
  t3 := Try.underlying3,
  a3 := Try.isAgg3,
  z3 := Try.sizeOf3,
  v3 := Try.zeroValue3,
  t4 := Try.underlying4,
  a4 := Try.isAgg4,
  z4 := Try.sizeOf4,
  v4 := Try.zeroValue4,
  t9 := Try.underlying9,
  a9 := Try.isAgg9,
  z9 := Try.sizeOf9,
  v9 := Try.zeroValue9,
  t20 := Try.underlying20,
  a20 := Try.isAgg20,
  z20 := Try.sizeOf20,
  v20 := Try.zeroValue20,
  t22 := Try.underlying28,
  a22 := Try.isAgg28,
  z22 := Try.sizeOf28,
  v22 := Try.zeroValue28 }


theorem growI_calls (n : Nat) (hn : n ≤ 20000) (w : World) :
    Calls Try.prog 41 #[.slice none 0 0, .int .i64 n] w fun e w' => ∃ v, e = .returned v ∧ OwnI w' w.heap.size [] v ∧ Below w.heap.size w w' := by
  obtain ⟨j0, hj, hy0, hy1, hy2⟩ := info_parts info_item
  by_cases h0 : n = 0
  · subst h0
    refine (Any8.slices_Grow_room growI none 0 0 0 w (by omega) (by omega) (by omega) (by omega)).mono ?_
    rintro e w' ⟨rfl, rfl⟩
    exact ⟨_, rfl, OwnI.nil _ _, Below.refl _ _⟩
  · refine (Any8.slices_Grow_grow growI j0 _ hj hy0 (by rw [hy1]; omega) none 0 0 n [] w (by omega) (by omega) (by rw [hy2]; omega) (by omega) (by simp) (fun _ => rfl) (fun a h => by cases h)).mono ?_
    rintro e w' ⟨rfl, rfl⟩
    have hge := grownCap_ge w (0 + n) 0 (growI_ren.t 25)
    have hle := grownCap_le_maxLen w (0 + n) 0 (growI_ren.t 25) (by unfold maxLen; omega)
    refine ⟨_, rfl, ⟨by simp [cellsI], .inr ⟨w.heap.size, _, _, rfl, Nat.le_refl _, heap_alloc_new w.drew _, by simp, hle, ?_, by simp [cellsI]⟩⟩, (Below.refl _ _).drew.alloc (Nat.le_refl _) _⟩
    simp only [Array.size_append, List.size_toArray, size_zeroCells, List.length_nil, Nat.zero_add, Nat.sub_zero]
    rw [← Nat.add_mul]
    rw [show (Value.cells (.agg #[.string ⟨#[]⟩, .int .i64 0, .int .i64 0, .int .i64 0, .string ⟨#[]⟩, .int .i64 0, .complex .f64 0 0, .bool false])).size = 8 from rfl]
    congr 1
    simp only [Nat.zero_add] at hge
    omega

theorem storeNoneI (a : Addr) (w : World) : (storeCells a []).run Try.prog w = .ok () w := by simp [storeCells]
theorem run_append_zeroI (ty : TypeId) (base oa : Option Addr) (n cap c : Nat) (hn : n ≤ cap) (w : World) :
    (Builtin.append_ #[28, 28] ty #[.slice base n cap, .slice oa 0 c]).run Try.prog w = .ok (.slice base n cap) w := by
  obtain ⟨j0, hj, hy0, hy1, hy2⟩ := info_parts info_item
  have hf : (Builtin.firstCells j0.size 0 (.slice oa 0 c)).run Try.prog w = .ok #[] w := by
    cases oa with
    | none => exact run_firstCells_none w _ _ _ _
    | some a => exact run_firstCells_some w j0.size 0 a 0 c [] (by simp) (fun j v h => by simp at h)
  cases base with
  | none => simp [Builtin.append_, run_underlying Try.underlying28, sizeOf, typeInfo, hj, Builtin.lenOf, hn, hf, Result.andThen]
  | some a => simp [Builtin.append_, run_underlying Try.underlying28, sizeOf, typeInfo, hj, Builtin.lenOf, hn, hf, storeNoneI, Result.andThen]
theorem cellsI_one8 (l : List Itm) : ∀ u ∈ cellsI l, u.oneCell' = true := by
  intro u hu
  unfold cellsI at hu
  obtain ⟨i, _, hi⟩ := List.mem_flatMap.1 hu
  exact itI_one i u hi
/-- Items that lie there are appended. -/
theorem run_append_items (ty : TypeId) {w : World} {base : Nat} {v sv : Value} {l m : List Itm} (hown : OwnI w base l v) (hM : Row 8 ic w m sv) (hn : l.length + m.length ≤ 30000) (hbase : base ≤ w.heap.size) :
    ∃ v' w', (Builtin.append_ #[28, 28] ty #[v, sv]).run Try.prog w = .ok v' w' ∧ OwnI w' base (l ++ m) v' ∧ w.grownBy w' v.ownBlock := by
  obtain ⟨oa, cap, b, o, rfl, h⟩ := hM
  obtain ⟨j0, hj, hy0, hy1, hy2⟩ := info_parts info_item
  by_cases h0 : m.length = 0
  · have e : m = [] := List.length_eq_zero_iff.1 h0
    subst e
    obtain ⟨ov, cv, gv, e, h1, _⟩ := row_slice hown
    subst e
    refine ⟨_, w, run_append_zeroI ty ov oa l.length cv cap h1 w, ?_, ⟨rfl, rfl, rfl, Nat.le_refl _, fun _ _ _ => rfl⟩⟩
    rw [List.append_nil]; exact hown
  · obtain ⟨rfl, hb⟩ := h.at0 (by omega)
    obtain ⟨v', w', r1, r2, r3, _⟩ := run_append_own w base 28 ty 34 j0 _ 8 88 Try.underlying28 hj hy0 hy1 hy2 rfl (by omega) v l.length (cellsI l) hown ⟨b, o, none⟩ m.length cap (cellsI m) (cellsI_len m) (rowI_news h rfl) (cellsI_one8 m) (by unfold maxLen; omega) (by omega) hbase
    refine ⟨v', w', r1, ?_, r3⟩
    unfold OwnI
    rw [cellsI_append, List.length_append]
    exact r2

/-! ### Slices of slices that lie there -/
structure SrcI (N : Nat) (w : World) (L : Nat → List Itm) (V : Nat → Value) (bs : Nat) : Prop where
  lt : bs < w.heap.size
  cell : ∀ k, k < N → w.cell? ⟨bs, k, none⟩ = some (V k)
  lies : ∀ k, k < N → Row 8 ic w (L k) (V k)
  len : ∀ k, k < N → (L k).length ≤ 2000
def catI (L : Nat → List Itm) : Nat → List Itm
  | 0 => []
  | k + 1 => catI L k ++ L k
theorem SrcI.tot {N : Nat} {w : World} {L : Nat → List Itm} {V : Nat → Value} {bs : Nat} (h : SrcI N w L V bs) : ∀ k, k ≤ N → (catI L k).length ≤ 2000 * k := by
  intro k
  induction k with
  | zero => intro _; simp [catI]
  | succ k ih =>
    intro hk
    have h1 := ih (by omega)
    have h2 := h.len k (by omega)
    simp only [catI, List.length_append]; omega
def SumI (N : Nat) (L : Nat → List Itm) (w0 : World) (s i : Value) (wr : World) : Prop := ∃ k : Nat, k ≤ N ∧ i = .int .i64 k ∧ s = .int .i64 (catI L k).length ∧ Hid (w0 = wr)
def CatR (N : Nat) (L : Nat → List Itm) (w0 : World) (v i : Value) (wr : World) : Prop :=
  ∃ k : Nat, k ≤ N ∧ i = .int .i64 k ∧ Hid (OwnI wr w0.heap.size (catI L k) v) ∧ Hid (Below w0.heap.size w0 wr)

set_option maxRecDepth 100000 in
set_option maxHeartbeats 4000000 in
theorem concatI_walk (N : Nat) (hN : N ≤ 5) (L : Nat → List Itm) (V : Nat → Value) (bs : Nat) (w : World) (hS : SrcI N w L V bs) :
    Calls Try.prog 27 #[.slice (some ⟨bs, 0, none⟩) N N] w fun e w' => ∃ v, e = .returned v ∧ OwnI w' w.heap.size (catI L N) v ∧ Below w.heap.size w w' := by
  have HS := Lib.hid hS
  have G := fun w' => Lib.hid (growI_calls (catI L N).length (by have := HS.out.tot N (Nat.le_refl _); omega) w')
  clear hS
  go_enter Try.func27, Try.ntmps27
  go_wp2_with fail
  go_loopw [3, 11] (fun s i wr => SumI N L w s i wr) (fun _ i _ => N - (intOf i).toNat)
  case atStart => exact ⟨0, by omega, rfl, rfl, rfl⟩
  case round =>
    obtain ⟨k, hk, rfl, rfl, hw⟩ := hrel
    have ew := hw.out
    subst ew
    clear hw
    by_cases hlt : k < N
    · obtain ⟨oa, cap, hV⟩ := (HS.out.lies k hlt).val
      have cv := HS.out.cell k hlt
      rw [hV] at cv
      have zb := HS.out.lt
      have t1 := HS.out.tot k hk
      have t2 := HS.out.len k hlt
      have t3 : (catI L (k + 1)).length = (catI L k).length + (L k).length := by simp [catI]
      have k0 : (0 : Int) ≤ (k : Int) := by omega
      have k1 : (k : Int) < (N : Int) := by omega
      have HT := Lib.hid t3
      clear t3 hV
      generalize (L k).length = m at *
      generalize ht : (catI L k).length = t at *
      have hneg : decide (((t : Int) + (m : Int)) < 0) = false := decide_eq_false (by omega)
      go_wp2_with fail
      go_roundw
      case rel => exact ⟨k + 1, by omega, by go_num, by rw [HT.out]; go_num, rfl⟩
      case measure => simp [intOf]; omega
    · have e : k = N := by omega
      subst e
      go_wp2_with (go_at_call 41; refine (G _).out.mono ?_; rintro e w1 ⟨v0, rfl, hr0, hb0⟩)
      have C0 : CatR k L w v0 (.int .i64 0) w1 := ⟨0, by omega, rfl, hr0, hb0⟩
      clear hr0 hb0
      go_loopw [6, 27] (fun v i wr => CatR k L w v i wr) (fun _ i _ => k - (intOf i).toNat)
      case atStart => exact C0
      case round =>
        clear C0
        obtain ⟨q, hq, rfl, HR, HB⟩ := hrel
        by_cases hlt : q < k
        · have LR := (HS.out.lies q hlt).later HB.out
          obtain ⟨oa, cap, hV⟩ := LR.val
          have cv := (HB.out.cell (p := ⟨bs, q, none⟩) HS.out.lt).trans (HS.out.cell q hlt)
          rw [hV] at cv LR
          have zb : bs < wr.heap.size := Nat.lt_of_lt_of_le HS.out.lt HB.out.size
          have t1 := HS.out.tot q hq
          have t2 := HS.out.len q hlt
          have k0 : (0 : Int) ≤ (q : Int) := by omega
          have k1 : (q : Int) < (k : Int) := by omega
          have HA := Lib.hid (fun ty => run_append_items ty HR.out LR (by omega) HB.out.size)
          obtain ⟨ov, cvv, hrv⟩ := HR.out.len
          subst hrv
          clear LR hV
          go_wp2_with (at_builtin; obtain ⟨v', w', hrun, hown, hgr⟩ := HA.out _; refine Lib.wpList_append_run _ rfl _ _ _ _ rfl _ _ rfl rfl _ _ hrun ?_)
          have HB2 := Lib.hid (below_push HR.out HB.out (Nat.le_refl _) hgr HB.out.size)
          go_roundw
          case rel => exact ⟨q + 1, by omega, by go_num, hown, HB2⟩
          case measure => simp [intOf]; omega
        · have e : q = k := by omega
          subst e
          go_wp2_with fail
          go_ret
          exact ⟨_, rfl, HR.out, HB.out⟩

end Go.Proofs.Ytbojpdlidgmckaa
