/- Joined: VecI, VecRep, RefVec2, VecHas, VecWith. -/
import Derived.Test.YthbjgfennclidaaGreatJ01
import Derived.StillTailTactics
/- Counts of replicas: the code's own counts, one by one, walked. -/
namespace Go.Proofs.YthbjgfennclidaaGreat
set_option linter.unusedVariables false
set_option linter.unusedSimpArgs false
set_option maxRecDepth 100000
open Go.RowKit
theorem idx8_0 (A : Nat → Int) (w : World) : (Instr.index 28 (vecV A) (.int .i64 0)).run Tryz.prog w = .ok (.int .i64 (A 0)) w := by kernel_rfl
theorem idx8_1 (A : Nat → Int) (w : World) : (Instr.index 28 (vecV A) (.int .i64 1)).run Tryz.prog w = .ok (.int .i64 (A 1)) w := by kernel_rfl
theorem idx8_2 (A : Nat → Int) (w : World) : (Instr.index 28 (vecV A) (.int .i64 2)).run Tryz.prog w = .ok (.int .i64 (A 2)) w := by kernel_rfl
theorem idx8_3 (A : Nat → Int) (w : World) : (Instr.index 28 (vecV A) (.int .i64 3)).run Tryz.prog w = .ok (.int .i64 (A 3)) w := by kernel_rfl
theorem idx8_4 (A : Nat → Int) (w : World) : (Instr.index 28 (vecV A) (.int .i64 4)).run Tryz.prog w = .ok (.int .i64 (A 4)) w := by kernel_rfl
theorem idx8_5 (A : Nat → Int) (w : World) : (Instr.index 28 (vecV A) (.int .i64 5)).run Tryz.prog w = .ok (.int .i64 (A 5)) w := by kernel_rfl
theorem idx8_6 (A : Nat → Int) (w : World) : (Instr.index 28 (vecV A) (.int .i64 6)).run Tryz.prog w = .ok (.int .i64 (A 6)) w := by kernel_rfl
theorem idx8_7 (A : Nat → Int) (w : World) : (Instr.index 28 (vecV A) (.int .i64 7)).run Tryz.prog w = .ok (.int .i64 (A 7)) w := by kernel_rfl
theorem idx8 (A : Nat → Int) {k : Nat} (h : k < 8) (w : World) : (Instr.index 28 (vecV A) (.int .i64 (k : Int))).run Tryz.prog w = .ok (.int .i64 (A k)) w := by
  match k, h with
  | 0, _ => exact idx8_0 A w
  | 1, _ => exact idx8_1 A w
  | 2, _ => exact idx8_2 A w
  | 3, _ => exact idx8_3 A w
  | 4, _ => exact idx8_4 A w
  | 5, _ => exact idx8_5 A w
  | 6, _ => exact idx8_6 A w
  | 7, _ => exact idx8_7 A w
end Go.Proofs.YthbjgfennclidaaGreat
/- Counts of replicas: the code's own replica, walked. -/
namespace Go.Proofs.YthbjgfennclidaaGreat
set_option linter.unusedVariables false
set_option linter.unusedSimpArgs false
set_option maxRecDepth 100000
open Go.RowKit
def repB (r : Int) : Bool := decide (1 ≤ r) && decide (r ≤ 8)
set_option maxHeartbeats 1000000 in
theorem replica_calls (r : Int) (w : World) :
    Calls Tryz.prog 207 #[.int .i64 r] w fun e w' => e = .returned (.bool (repB r)) ∧ w' = w := by
  unfold repB
  cases g1 : decide (1 ≤ r)
  all_goals
    cases g2 : decide (r ≤ 8)
    all_goals
      go_enter Tryz.func207, Tryz.ntmps207
      go_wp2_with fail
      go_ret
      simp
theorem replica_quiet (r : Int) (w : World) :
    Calls Tryz.prog 207 #[.int .i64 r] w fun e w' => e = .returned (.bool (repB r)) ∧ Below w.heap.size w w' :=
  (replica_calls r w).mono (by rintro e w' ⟨h, rfl⟩; exact ⟨h, Below.refl _ _⟩)
theorem rep_no {r : Int} (h : r < 1 ∨ 8 < r) : repB r = false := by
  unfold repB
  rcases h with h | h
  · rw [show decide (1 ≤ r) = false from decide_eq_false (by omega)]; rfl
  · rw [show decide (r ≤ 8) = false from decide_eq_false (by omega)]; simp
theorem rep_yes {k : Nat} (h : k < 8) : repB ((k : Int) + 1) = true := by
  unfold repB
  rw [show decide (1 ≤ (k : Int) + 1) = true from decide_eq_true (by omega), show decide ((k : Int) + 1 ≤ 8) = true from decide_eq_true (by omega)]
  rfl
theorem has_out {A : Nat → Int} {r c : Int} (h : r < 1 ∨ 8 < r) : hasV A r c = false := by
  unfold hasV
  rw [cnt_out h]
  by_cases h1 : 1 ≤ c
  · rw [show decide (c ≤ 0) = false from decide_eq_false (by omega)]; simp
  · rw [decide_eq_false h1]; rfl
end Go.Proofs.YthbjgfennclidaaGreat
/- The greater counts, counts with a version: the document's answers, walked. -/
namespace Go.Proofs.YthbjgfennclidaaGreat
set_option linter.unusedVariables false
set_option linter.unusedSimpArgs false
set_option maxRecDepth 100000
open Go.RowKit
theorem arr_zero (M : Nat → Int) : arr8 (fun _ => 0) = arr8 (upTo 0 M) := arr_congr fun j _ => by unfold upTo; rw [if_neg (by omega)]
theorem arr_whole (M : Nat → Int) : arr8 (upTo 8 M) = arr8 M := arr_congr fun j h => by unfold upTo; rw [if_pos h]
set_option maxRecDepth 100000 in
set_option maxHeartbeats 4000000 in
theorem refMax_calls (A B : Nat → Int) (w : World) :
    Calls Tryz.prog 137 #[vecV A, vecV B] w fun e w' => e = .returned (vecV (maxV A B)) ∧ Below w.heap.size w w' := by
  have I0 : MSt A B (maxV A B) 0 w ((((w.alloc (.cells (arr8 A) 28)).alloc (.cells (arr8 B) 28)).alloc (.cells (arr8 fun _ => 0) 28)).alloc (.cells (arr8 fun _ => 0) 28)) :=
    ⟨(((Own.new w _ _).alloc _).alloc _).alloc _, ((Own.newAt _ _ _ (by simp)).alloc _).alloc _, (Own.newAt _ _ _ (by simp)).alloc _, by rw [← arr_zero]; exact Own.newAt _ _ _ (by simp), ((((Below.refl _ _).alloc (Nat.le_refl _) _).alloc (by simp) _).alloc (by simp; omega) _).alloc (by simp; omega) _⟩
  have HI0 := Lib.hid I0
  clear I0
  go_enter Tryz.func137, Tryz.ntmps137
  go_wp2_with fail
  go_loopw [6] (fun i wr => MxRel A B (maxV A B) w i wr) (fun i _ => 8 - (intOf i).toNat)
  case atStart => exact ⟨0, by omega, rfl, HI0⟩
  case round =>
    clear HI0
    obtain ⟨k, hk, rfl, HP⟩ := hrel
    by_cases hlt : k < 8
    · have ca := (HP.out.o1.cell k).trans (arr_get A hlt)
      have c4 := (HP.out.o4.cell k).trans (arr_get (upTo k (maxV A B)) hlt)
      have f4 := HP.out.o4.free k
      have z1 := HP.out.o1.lt
      have z2 := HP.out.o2.lt
      have z3 := HP.out.o3.lt
      have z4 := HP.out.o4.lt
      have k0 : (0 : Int) ≤ (k : Int) := by omega
      have k1 : (k : Int) < 8 := by omega
      -- behind the first store
      have P1 := (HP.out.put hlt (A k)).1
      have b1 := HP.out.bel.setCell (p := ⟨w.heap.size + 1 + 1 + 1, k, none⟩) (by show w.heap.size ≤ w.heap.size + 1 + 1 + 1; omega) (.int .i64 (A k))
      have q1 := HP.out.o1.setFar ⟨w.heap.size + 1 + 1 + 1, k, none⟩ (.int .i64 (A k)) (by show w.heap.size ≠ w.heap.size + 1 + 1 + 1; omega)
      have q2 := HP.out.o2.setFar ⟨w.heap.size + 1 + 1 + 1, k, none⟩ (.int .i64 (A k)) (by show w.heap.size + 1 ≠ w.heap.size + 1 + 1 + 1; omega)
      have q3 := HP.out.o3.setFar ⟨w.heap.size + 1 + 1 + 1, k, none⟩ (.int .i64 (A k)) (by show w.heap.size + 1 + 1 ≠ w.heap.size + 1 + 1 + 1; omega)
      have HQ := Lib.hid (show Own _ _ _ _ ∧ Own _ _ _ _ ∧ Own _ _ _ _ ∧ Own _ _ _ _ ∧ Below _ _ _ from ⟨q1, q2, q3, P1, b1⟩)
      clear P1 b1 q1 q2 q3
      have LA := fun dd os => (HQ.out.1.has.regrown dd os k).trans (arr_get A hlt)
      have LB := fun dd os => (HQ.out.2.1.has.regrown dd os k).trans (arr_get B hlt)
      by_cases h : A k < B k
      · have g : decide (A k < B k) = true := decide_eq_true h
        have hm : maxV A B k = B k := by unfold maxV; rw [if_pos h]
        go_wp2_with fail
        refine wp_region_quiet_below (by kernel_rfl) (by kernel_rfl) ?_
        repeat (first | go_big_quiet_step (fail) | quiet_step (fail))
        refine wpQuiet_nil ?_
        intro w7 hw'
        have hb' := Lib.hid (regrown_below hw')
        clear hw'
        clear LA LB
        have O1 := HQ.out.1.later hb'.out
        have O2 := HQ.out.2.1.later hb'.out
        have O3 := HQ.out.2.2.1.later hb'.out
        have O4 := HQ.out.2.2.2.1.later hb'.out
        have B4 := HQ.out.2.2.2.2.trans (hb'.out.mono HQ.out.2.2.2.2.size)
        have cb := (O2.cell k).trans (arr_get B hlt)
        have c5 := (O4.cell k).trans (arr_get _ hlt)
        have f5 := O4.free k
        have y2 := O2.lt
        have y4 := O4.lt
        have R1 := O1.setFar ⟨w.heap.size + 1 + 1 + 1, k, none⟩ (.int .i64 (B k)) (by show w.heap.size ≠ w.heap.size + 1 + 1 + 1; omega)
        have R2 := O2.setFar ⟨w.heap.size + 1 + 1 + 1, k, none⟩ (.int .i64 (B k)) (by show w.heap.size + 1 ≠ w.heap.size + 1 + 1 + 1; omega)
        have R3 := O3.setFar ⟨w.heap.size + 1 + 1 + 1, k, none⟩ (.int .i64 (B k)) (by show w.heap.size + 1 + 1 ≠ w.heap.size + 1 + 1 + 1; omega)
        have R4 := O4.set k (.int .i64 (B k))
        rw [arr_set _ hlt] at R4
        have R5 := B4.setCell (p := ⟨w.heap.size + 1 + 1 + 1, k, none⟩) (by show w.heap.size ≤ w.heap.size + 1 + 1 + 1; omega) (.int .i64 (B k))
        have HR := Lib.hid (HP.out.step R1 R2 R3 (by
          have e : arr8 (fun j => if j = k then B k else (fun j => if j = k then A k else upTo k (maxV A B) j) j) = arr8 (fun j => if j = k then maxV A B k else upTo k (maxV A B) j) := arr_congr fun j _ => by
            by_cases hj : j = k
            · simp [hj, hm]
            · simp [hj]
          rw [← e]; exact R4) R5)
        clear O1 O2 O3 O4 B4 R1 R2 R3 R4 R5 ca c4 f4
        go_wp2_with fail
        go_roundw
        case rel => exact ⟨k + 1, by omega, by go_num, HR⟩
        case measure => simp [intOf]; omega
      · have g : decide (A k < B k) = false := decide_eq_false h
        have hm : maxV A B k = A k := by unfold maxV; rw [if_neg h]
        have HS := Lib.hid (HP.out.step HQ.out.1 HQ.out.2.1 HQ.out.2.2.1 (by rw [hm]; exact HQ.out.2.2.2.1) HQ.out.2.2.2.2)
        go_wp2_with fail
        refine wp_region_quiet_below (by kernel_rfl) (by kernel_rfl) ?_
        repeat (first | go_big_quiet_step (fail) | quiet_step (fail))
        refine wpQuiet_nil ?_
        intro w7 hw'
        have hb' := Lib.hid (regrown_below hw')
        clear hw'
        clear LA LB ca c4 f4
        go_wp2_with fail
        go_roundw
        case rel => exact ⟨k + 1, by omega, by go_num, Lib.hid (HS.out.later hb'.out)⟩
        case measure => simp [intOf]; omega
    · have e : k = 8 := by omega
      subst e
      have o4 := HP.out.o4
      rw [arr_whole] at o4
      have l3 := HP.out.o3.cell
      have f3 := HP.out.o3.free
      have z3 := HP.out.o3.lt
      have l4 := o4.cell
      have z4 := o4.lt
      have BEL := Lib.hid HP.out.bel
      go_wp2_with fail
      have key := And.intro (st8_own HP.out.o3 (.int .i64 ((maxV A B) 0)) (.int .i64 ((maxV A B) 1)) (.int .i64 ((maxV A B) 2)) (.int .i64 ((maxV A B) 3)) (.int .i64 ((maxV A B) 4)) (.int .i64 ((maxV A B) 5)) (.int .i64 ((maxV A B) 6)) (.int .i64 ((maxV A B) 7))) (st8_below (b := w.heap.size + 1 + 1) BEL.out (by omega) (.int .i64 ((maxV A B) 0)) (.int .i64 ((maxV A B) 1)) (.int .i64 ((maxV A B) 2)) (.int .i64 ((maxV A B) 3)) (.int .i64 ((maxV A B) 4)) (.int .i64 ((maxV A B) 5)) (.int .i64 ((maxV A B) 6)) (.int .i64 ((maxV A B) 7)))
      clear l3 f3 z3 l4 z4
      unfold st8 at key
      revert key
      generalize World.setCell (World.setCell (World.setCell (World.setCell (World.setCell (World.setCell (World.setCell (World.setCell _ _ _) _ _) _ _) _ _) _ _) _ _) _ _) _ _ = WW
      rintro ⟨of, bf⟩
      have lf := of.cell
      refine bodyPost_ret (v := vecV ((maxV A B))) (by simp [results, Tryz.results137, go_sem, lf]) rfl ⟨rfl, bf⟩
end Go.Proofs.YthbjgfennclidaaGreat
/- Counts of replicas: the code's own Has, walked. -/
namespace Go.Proofs.YthbjgfennclidaaGreat
set_option linter.unusedVariables false
set_option linter.unusedSimpArgs false
set_option maxRecDepth 100000
open Go.RowKit
set_option maxRecDepth 100000 in
set_option maxHeartbeats 2000000 in
theorem vecHas_calls (A : Nat → Int) (r c : Int) (w : World) :
    Calls Tryz.prog 169 #[vecV A, .agg #[.int .i64 r, .int .i64 c]] w fun e w' => e = .returned (.bool (hasV A r c)) ∧ Below w.heap.size w w' := by
  have G1 := Lib.hid ((Has.new w (arr8 A) 28).alloc (.cells #[.int .i64 r, .int .i64 c] 66))
  have G2 := Lib.hid ((Own.newAt (w.alloc (.cells (arr8 A) 28)) #[.int .i64 r, .int .i64 c] 66 (b := w.heap.size + 1) (by simp)).has)
  have LA := fun dd os o => G1.out.regrown dd os o
  have LB := fun dd os o => G2.out.regrown dd os o
  have m := fun dd os => Lib.hid (Calls.regrown_of (replica_quiet r (Sort.grow (redrawn ((w.alloc (.cells (arr8 A) 28)).alloc (.cells #[.int .i64 r, .int .i64 c] 66)) dd) os)))
  by_cases h : r < 1 ∨ 8 < r
  · have E := Lib.hid (has_out (A := A) (c := c) h)
    have e := rep_no h
    clear h
    rw [e] at m
    clear e
    cases hg : decide (1 ≤ c)
    all_goals
      go_enter Tryz.func169, Tryz.ntmps169
      go_wp2_with fail
      refine wp_region_quiet_below (by kernel_rfl) (by kernel_rfl) ?_
      repeat (first | go_big_quiet_step ((with_reducible exact (m _ _).out)) | quiet_step (with_reducible exact (m _ _).out))
      refine wpQuiet_nil ?_
      intro w7 hw'
      have hb' := Lib.hid (regrown_below hw')
      clear hw'
      go_wp2_with fail
      go_ret
      exact ⟨ret_bool E.out.symm, below_new (below_new hb'.out)⟩
  · obtain ⟨k, rfl⟩ : ∃ k : Nat, r = (k : Int) + 1 := ⟨(r - 1).toNat, by omega⟩
    have hk : k < 8 := by omega
    clear h
    have e := rep_yes hk
    rw [e] at m
    clear e
    have E := Lib.hid (show hasV A ((k : Int) + 1) c = (decide (1 ≤ c) && decide (c ≤ A k)) by unfold hasV; rw [cnt_in hk])
    have g3 : (k : Int) + 1 - 1 = (k : Int) := by omega
    have LC := fun dd os => (G1.out.regrown dd os k).trans (arr_get A hk)
    clear LA
    have k0 : (0 : Int) ≤ (k : Int) := by omega
    have k1 : (k : Int) < 8 := by omega
    generalize hasV A ((k : Int) + 1) c = R at *
    cases hg : decide (1 ≤ c)
    all_goals
      go_enter Tryz.func169, Tryz.ntmps169
      go_wp2_with fail
      refine wp_region_quiet_below (by kernel_rfl) (by kernel_rfl) ?_
      repeat (first | go_big_quiet_step ((with_reducible exact (m _ _).out)) | quiet_step (with_reducible exact (m _ _).out))
      refine wpQuiet_nil ?_
      intro w7 hw'
      have hb' := Lib.hid (regrown_below hw')
      clear hw'
      go_wp2_with fail
      go_ret
      exact ⟨ret_bool (by rw [E.out, hg]; simp), below_new (below_new hb'.out)⟩
end Go.Proofs.YthbjgfennclidaaGreat
/- Counts of replicas: the code's own With, walked. -/
namespace Go.Proofs.YthbjgfennclidaaGreat
set_option linter.unusedVariables false
set_option linter.unusedSimpArgs false
set_option maxRecDepth 100000
open Go.RowKit
end Go.Proofs.YthbjgfennclidaaGreat
