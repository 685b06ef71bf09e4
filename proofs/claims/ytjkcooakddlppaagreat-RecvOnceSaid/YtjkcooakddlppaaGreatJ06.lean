/- Joined: RefVec2, ItemE, RefKnow1, ItemM. -/
import Derived.Test.YtjkcooakddlppaaGreatJ05
import Derived.Test.YtjkcooakddlppaaGreatJ02
import Derived.Deep.CutBlock
import Derived.Deep.DeepCutAuto
/- The greater counts, counts with a version: the document's answers, walked. -/
namespace Go.Proofs.YtjkcooakddlppaaGreat
set_option linter.unusedVariables false
set_option linter.unusedSimpArgs false
set_option maxRecDepth 100000
open Go.RowKit
theorem arr_zero (M : Nat → Int) : arr8 (fun _ => 0) = arr8 (upTo 0 M) := arr_congr fun j _ => by unfold upTo; rw [if_neg (by omega)]
theorem arr_whole (M : Nat → Int) : arr8 (upTo 8 M) = arr8 M := arr_congr fun j h => by unfold upTo; rw [if_pos h]
theorem with_out {A : Nat → Int} {r c : Int} (h : r < 1 ∨ 8 < r) : vecV A = vecV (withV A r c) := vec_congr fun j _ => by unfold withV; rw [if_neg (by omega)]
theorem with_le {A : Nat → Int} {c : Int} {k : Nat} (hc : c ≤ A k) : vecV A = vecV (withV A ((k : Int) + 1) c) := vec_congr fun j _ => by
  unfold withV
  rw [if_neg]
  rintro ⟨h1, _, _, h2⟩
  have e : ((k : Int) + 1 - 1).toNat = k := by omega
  rw [e] at h1; subst h1; omega
theorem with_in {A : Nat → Int} {c : Int} {k : Nat} (hk : k < 8) (hc : A k < c) : vecV (fun j => if j = k then c else A j) = vecV (withV A ((k : Int) + 1) c) := vec_congr fun j _ => by
  have e : ((k : Int) + 1 - 1).toNat = k := by omega
  unfold withV
  rw [e]
  by_cases h : j = k
  · subst h; rw [if_pos rfl, if_pos ⟨rfl, by omega, by omega, hc⟩]
  · rw [if_neg h, if_neg (fun h' => h h'.1)]
set_option maxRecDepth 100000 in
set_option maxHeartbeats 4000000 in
theorem refMax_calls (A B : Nat → Int) (w : World) :
    Calls Tryz.prog 162 #[vecV A, vecV B] w fun e w' => e = .returned (vecV (maxV A B)) ∧ Below w.heap.size w w' := by
  have I0 : MSt A B (maxV A B) 0 w ((((w.alloc (.cells (arr8 A) 28)).alloc (.cells (arr8 B) 28)).alloc (.cells (arr8 fun _ => 0) 28)).alloc (.cells (arr8 fun _ => 0) 28)) :=
    ⟨(((Own.new w _ _).alloc _).alloc _).alloc _, ((Own.newAt _ _ _ (by simp)).alloc _).alloc _, (Own.newAt _ _ _ (by simp)).alloc _, by rw [← arr_zero]; exact Own.newAt _ _ _ (by simp), ((((Below.refl _ _).alloc (Nat.le_refl _) _).alloc (by simp) _).alloc (by simp; omega) _).alloc (by simp; omega) _⟩
  have HI0 := Lib.hid I0
  clear I0
  go_enter Tryz.func162, Tryz.ntmps162
  go_wp2_with fail
  go_loopw [6] (fun i wr => MxRel A B (maxV A B) w i wr) (fun i _ => 8 - (intOf i).toNat)
  case atStart => exact ⟨0, by omega, rfl, HI0⟩
  case round =>
    clear HI0
    obtain ⟨k, hk, rfl, HP⟩ := hrel
    by_cases hlt : k < 8
    · have ca := (HP.out.o1.cell k).trans (arr_get A hlt)
      have c4 := (HP.out.o4.cell k).trans (arr_get (upTo k (maxV A B)) hlt)
      have f4 := HP.out.o4.free k
      have z1 := HP.out.o1.lt
      have z2 := HP.out.o2.lt
      have z3 := HP.out.o3.lt
      have z4 := HP.out.o4.lt
      have k0 : (0 : Int) ≤ (k : Int) := by omega
      have k1 : (k : Int) < 8 := by omega
      -- behind the first store
      have P1 := (HP.out.put hlt (A k)).1
      have b1 := HP.out.bel.setCell (p := ⟨w.heap.size + 1 + 1 + 1, k, none⟩) (by show w.heap.size ≤ w.heap.size + 1 + 1 + 1; omega) (.int .i64 (A k))
      have q1 := HP.out.o1.setFar ⟨w.heap.size + 1 + 1 + 1, k, none⟩ (.int .i64 (A k)) (by show w.heap.size ≠ w.heap.size + 1 + 1 + 1; omega)
      have q2 := HP.out.o2.setFar ⟨w.heap.size + 1 + 1 + 1, k, none⟩ (.int .i64 (A k)) (by show w.heap.size + 1 ≠ w.heap.size + 1 + 1 + 1; omega)
      have q3 := HP.out.o3.setFar ⟨w.heap.size + 1 + 1 + 1, k, none⟩ (.int .i64 (A k)) (by show w.heap.size + 1 + 1 ≠ w.heap.size + 1 + 1 + 1; omega)
      have HQ := Lib.hid (show Own _ _ _ _ ∧ Own _ _ _ _ ∧ Own _ _ _ _ ∧ Own _ _ _ _ ∧ Below _ _ _ from ⟨q1, q2, q3, P1, b1⟩)
      clear P1 b1 q1 q2 q3
      have LA := fun dd os => (HQ.out.1.has.regrown dd os k).trans (arr_get A hlt)
      have LB := fun dd os => (HQ.out.2.1.has.regrown dd os k).trans (arr_get B hlt)
      by_cases h : A k < B k
      · have g : decide (A k < B k) = true := decide_eq_true h
        have hm : maxV A B k = B k := by unfold maxV; rw [if_pos h]
        go_wp2_with fail
        refine wp_region_quiet_below (by kernel_rfl) (by kernel_rfl) ?_
        repeat (first | go_big_quiet_step (fail) | quiet_step (fail))
        refine wpQuiet_nil ?_
        intro w7 hw'
        have hb' := Lib.hid (regrown_below hw')
        clear hw'
        clear LA LB
        have O1 := HQ.out.1.later hb'.out
        have O2 := HQ.out.2.1.later hb'.out
        have O3 := HQ.out.2.2.1.later hb'.out
        have O4 := HQ.out.2.2.2.1.later hb'.out
        have B4 := HQ.out.2.2.2.2.trans (hb'.out.mono HQ.out.2.2.2.2.size)
        have cb := (O2.cell k).trans (arr_get B hlt)
        have c5 := (O4.cell k).trans (arr_get _ hlt)
        have f5 := O4.free k
        have y2 := O2.lt
        have y4 := O4.lt
        have R1 := O1.setFar ⟨w.heap.size + 1 + 1 + 1, k, none⟩ (.int .i64 (B k)) (by show w.heap.size ≠ w.heap.size + 1 + 1 + 1; omega)
        have R2 := O2.setFar ⟨w.heap.size + 1 + 1 + 1, k, none⟩ (.int .i64 (B k)) (by show w.heap.size + 1 ≠ w.heap.size + 1 + 1 + 1; omega)
        have R3 := O3.setFar ⟨w.heap.size + 1 + 1 + 1, k, none⟩ (.int .i64 (B k)) (by show w.heap.size + 1 + 1 ≠ w.heap.size + 1 + 1 + 1; omega)
        have R4 := O4.set k (.int .i64 (B k))
        rw [arr_set _ hlt] at R4
        have R5 := B4.setCell (p := ⟨w.heap.size + 1 + 1 + 1, k, none⟩) (by show w.heap.size ≤ w.heap.size + 1 + 1 + 1; omega) (.int .i64 (B k))
        have HR := Lib.hid (HP.out.step R1 R2 R3 (by
          have e : arr8 (fun j => if j = k then B k else (fun j => if j = k then A k else upTo k (maxV A B) j) j) = arr8 (fun j => if j = k then maxV A B k else upTo k (maxV A B) j) := arr_congr fun j _ => by
            by_cases hj : j = k
            · simp [hj, hm]
            · simp [hj]
          rw [← e]; exact R4) R5)
        clear O1 O2 O3 O4 B4 R1 R2 R3 R4 R5 ca c4 f4
        go_wp2_with fail
        go_roundw
        case rel => exact ⟨k + 1, by omega, by go_num, HR⟩
        case measure => simp [intOf]; omega
      · have g : decide (A k < B k) = false := decide_eq_false h
        have hm : maxV A B k = A k := by unfold maxV; rw [if_neg h]
        have HS := Lib.hid (HP.out.step HQ.out.1 HQ.out.2.1 HQ.out.2.2.1 (by rw [hm]; exact HQ.out.2.2.2.1) HQ.out.2.2.2.2)
        go_wp2_with fail
        refine wp_region_quiet_below (by kernel_rfl) (by kernel_rfl) ?_
        repeat (first | go_big_quiet_step (fail) | quiet_step (fail))
        refine wpQuiet_nil ?_
        intro w7 hw'
        have hb' := Lib.hid (regrown_below hw')
        clear hw'
        clear LA LB ca c4 f4
        go_wp2_with fail
        go_roundw
        case rel => exact ⟨k + 1, by omega, by go_num, Lib.hid (HS.out.later hb'.out)⟩
        case measure => simp [intOf]; omega
    · have e : k = 8 := by omega
      subst e
      have o4 := HP.out.o4
      rw [arr_whole] at o4
      have l3 := HP.out.o3.cell
      have f3 := HP.out.o3.free
      have z3 := HP.out.o3.lt
      have l4 := o4.cell
      have z4 := o4.lt
      have BEL := Lib.hid HP.out.bel
      go_wp2_with fail
      have key := And.intro (st8_own HP.out.o3 (.int .i64 ((maxV A B) 0)) (.int .i64 ((maxV A B) 1)) (.int .i64 ((maxV A B) 2)) (.int .i64 ((maxV A B) 3)) (.int .i64 ((maxV A B) 4)) (.int .i64 ((maxV A B) 5)) (.int .i64 ((maxV A B) 6)) (.int .i64 ((maxV A B) 7))) (st8_below (b := w.heap.size + 1 + 1) BEL.out (by omega) (.int .i64 ((maxV A B) 0)) (.int .i64 ((maxV A B) 1)) (.int .i64 ((maxV A B) 2)) (.int .i64 ((maxV A B) 3)) (.int .i64 ((maxV A B) 4)) (.int .i64 ((maxV A B) 5)) (.int .i64 ((maxV A B) 6)) (.int .i64 ((maxV A B) 7)))
      clear l3 f3 z3 l4 z4
      unfold st8 at key
      revert key
      generalize World.setCell (World.setCell (World.setCell (World.setCell (World.setCell (World.setCell (World.setCell (World.setCell _ _ _) _ _) _ _) _ _) _ _) _ _) _ _) _ _ = WW
      rintro ⟨of, bf⟩
      have lf := of.cell
      refine bodyPost_ret (v := vecV ((maxV A B))) (by simp [results, Tryz.results162, go_sem, lf]) rfl ⟨rfl, bf⟩
set_option maxRecDepth 100000 in
set_option maxHeartbeats 4000000 in
theorem refWith_calls (A : Nat → Int) (r c : Int) (w : World) :
    Calls Tryz.prog 104 #[vecV A, .agg #[.int .i64 r, .int .i64 c]] w fun e w' => e = .returned (vecV (withV A r c)) ∧ Below w.heap.size w w' := by
  have O1 := Lib.hid (((Own.new w (arr8 A) 28).alloc (.cells #[.int .i64 r, .int .i64 c] 37)).alloc (.cells (arr8 fun _ => 0) 28))
  have O2 := Lib.hid ((Own.newAt (w.alloc (.cells (arr8 A) 28)) #[.int .i64 r, .int .i64 c] 37 (b := w.heap.size + 1) (by simp)).alloc (.cells (arr8 fun _ => 0) 28))
  have O3 := Lib.hid (Own.newAt ((w.alloc (.cells (arr8 A) 28)).alloc (.cells #[.int .i64 r, .int .i64 c] 37)) (arr8 fun _ => 0) 28 (b := w.heap.size + 1 + 1) (by simp))
  have BEL := Lib.hid ((((Below.refl w.heap.size w).alloc (Nat.le_refl _) (.cells (arr8 A) 28)).alloc (by simp) (.cells #[.int .i64 r, .int .i64 c] 37)).alloc (by simp; omega) (.cells (arr8 fun _ => 0) 28))
  have LB := fun dd os o => O2.out.has.regrown dd os o
  by_cases h1 : r < 1
  · have HE := Lib.hid (with_out (A := A) (r := r) (c := c) (.inl h1))
    have g1 : decide (r < 1) = true := decide_eq_true h1
    go_enter Tryz.func104, Tryz.ntmps104
    go_wp2_with fail
    refine wp_region_quiet_below (by kernel_rfl) (by kernel_rfl) ?_
    repeat (first | go_big_quiet_step (fail) | quiet_step (fail))
    refine wpQuiet_nil ?_
    intro w7 hw'
    have hb' := Lib.hid (regrown_below hw')
    clear hw'
    clear LB
    replace O1 := Lib.hid (O1.out.later hb'.out)
    replace O2 := Lib.hid (O2.out.later hb'.out)
    replace O3 := Lib.hid (O3.out.later hb'.out)
    replace BEL := Lib.hid (BEL.out.trans (hb'.out.mono BEL.out.size))
    have l1 := O1.out.cell
    have z1 := O1.out.lt
    have l3 := O3.out.cell
    have f3 := O3.out.free
    have z3 := O3.out.lt
    go_wp2_with fail
    have key := And.intro (st8_own O3.out (.int .i64 (A 0)) (.int .i64 (A 1)) (.int .i64 (A 2)) (.int .i64 (A 3)) (.int .i64 (A 4)) (.int .i64 (A 5)) (.int .i64 (A 6)) (.int .i64 (A 7))) (st8_below (b := w.heap.size + 1 + 1) BEL.out (by omega) (.int .i64 (A 0)) (.int .i64 (A 1)) (.int .i64 (A 2)) (.int .i64 (A 3)) (.int .i64 (A 4)) (.int .i64 (A 5)) (.int .i64 (A 6)) (.int .i64 (A 7)))
    clear l1 z1 l3 f3 z3
    unfold st8 at key
    revert key
    generalize World.setCell (World.setCell (World.setCell (World.setCell (World.setCell (World.setCell (World.setCell (World.setCell _ _ _) _ _) _ _) _ _) _ _) _ _) _ _) _ _ = WW
    rintro ⟨of, bf⟩
    have lf := of.cell
    refine bodyPost_ret (v := vecV A) (by simp [results, Tryz.results104, go_sem, lf]) rfl ⟨congrArg Ending.returned HE.out, bf⟩
  by_cases h2 : 8 < r
  · have HE := Lib.hid (with_out (A := A) (r := r) (c := c) (.inr h2))
    have g1 : decide (r < 1) = false := decide_eq_false h1
    have g2 : decide (8 < r) = true := decide_eq_true h2
    go_enter Tryz.func104, Tryz.ntmps104
    go_wp2_with fail
    refine wp_region_quiet_below (by kernel_rfl) (by kernel_rfl) ?_
    repeat (first | go_big_quiet_step (fail) | quiet_step (fail))
    refine wpQuiet_nil ?_
    intro w7 hw'
    have hb' := Lib.hid (regrown_below hw')
    clear hw'
    clear LB
    replace O1 := Lib.hid (O1.out.later hb'.out)
    replace O2 := Lib.hid (O2.out.later hb'.out)
    replace O3 := Lib.hid (O3.out.later hb'.out)
    replace BEL := Lib.hid (BEL.out.trans (hb'.out.mono BEL.out.size))
    have l1 := O1.out.cell
    have z1 := O1.out.lt
    have l3 := O3.out.cell
    have f3 := O3.out.free
    have z3 := O3.out.lt
    go_wp2_with fail
    have key := And.intro (st8_own O3.out (.int .i64 (A 0)) (.int .i64 (A 1)) (.int .i64 (A 2)) (.int .i64 (A 3)) (.int .i64 (A 4)) (.int .i64 (A 5)) (.int .i64 (A 6)) (.int .i64 (A 7))) (st8_below (b := w.heap.size + 1 + 1) BEL.out (by omega) (.int .i64 (A 0)) (.int .i64 (A 1)) (.int .i64 (A 2)) (.int .i64 (A 3)) (.int .i64 (A 4)) (.int .i64 (A 5)) (.int .i64 (A 6)) (.int .i64 (A 7)))
    clear l1 z1 l3 f3 z3
    unfold st8 at key
    revert key
    generalize World.setCell (World.setCell (World.setCell (World.setCell (World.setCell (World.setCell (World.setCell (World.setCell _ _ _) _ _) _ _) _ _) _ _) _ _) _ _) _ _ = WW
    rintro ⟨of, bf⟩
    have lf := of.cell
    refine bodyPost_ret (v := vecV A) (by simp [results, Tryz.results104, go_sem, lf]) rfl ⟨congrArg Ending.returned HE.out, bf⟩
  obtain ⟨k, rfl⟩ : ∃ k : Nat, r = (k : Int) + 1 := ⟨(r - 1).toNat, by omega⟩
  have hk : k < 8 := by omega
  have g1 : decide ((k : Int) + 1 < 1) = false := decide_eq_false h1
  have g2 : decide (8 < (k : Int) + 1) = false := decide_eq_false h2
  have g3 : (k : Int) + 1 - 1 = (k : Int) := by omega
  have k0 : (0 : Int) ≤ (k : Int) := by omega
  have k1 : (k : Int) < 8 := by omega
  have LA := fun dd os => (O1.out.has.regrown dd os k).trans (arr_get A hk)
  clear h1 h2
  by_cases h : c ≤ A k
  · have HE := Lib.hid (with_le (A := A) (k := k) h)
    have g4 : decide (c ≤ A k) = true := decide_eq_true h
    go_enter Tryz.func104, Tryz.ntmps104
    go_wp2_with fail
    refine wp_region_quiet_below (by kernel_rfl) (by kernel_rfl) ?_
    repeat (first | go_big_quiet_step (fail) | quiet_step (fail))
    refine wpQuiet_nil ?_
    intro w7 hw'
    have hb' := Lib.hid (regrown_below hw')
    clear hw'
    clear LB LA
    replace O1 := Lib.hid (O1.out.later hb'.out)
    replace O2 := Lib.hid (O2.out.later hb'.out)
    replace O3 := Lib.hid (O3.out.later hb'.out)
    replace BEL := Lib.hid (BEL.out.trans (hb'.out.mono BEL.out.size))
    have l1 := O1.out.cell
    have z1 := O1.out.lt
    have l3 := O3.out.cell
    have f3 := O3.out.free
    have z3 := O3.out.lt
    go_wp2_with fail
    have key := And.intro (st8_own O3.out (.int .i64 (A 0)) (.int .i64 (A 1)) (.int .i64 (A 2)) (.int .i64 (A 3)) (.int .i64 (A 4)) (.int .i64 (A 5)) (.int .i64 (A 6)) (.int .i64 (A 7))) (st8_below (b := w.heap.size + 1 + 1) BEL.out (by omega) (.int .i64 (A 0)) (.int .i64 (A 1)) (.int .i64 (A 2)) (.int .i64 (A 3)) (.int .i64 (A 4)) (.int .i64 (A 5)) (.int .i64 (A 6)) (.int .i64 (A 7)))
    clear l1 z1 l3 f3 z3
    unfold st8 at key
    revert key
    generalize World.setCell (World.setCell (World.setCell (World.setCell (World.setCell (World.setCell (World.setCell (World.setCell _ _ _) _ _) _ _) _ _) _ _) _ _) _ _) _ _ = WW
    rintro ⟨of, bf⟩
    have lf := of.cell
    refine bodyPost_ret (v := vecV A) (by simp [results, Tryz.results104, go_sem, lf]) rfl ⟨congrArg Ending.returned HE.out, bf⟩
  · have HE := Lib.hid (with_in (A := A) (k := k) (c := c) hk (by omega))
    have g4 : decide (c ≤ A k) = false := decide_eq_false h
    go_enter Tryz.func104, Tryz.ntmps104
    go_wp2_with fail
    refine wp_region_quiet_below (by kernel_rfl) (by kernel_rfl) ?_
    repeat (first | go_big_quiet_step (fail) | quiet_step (fail))
    refine wpQuiet_nil ?_
    intro w7 hw'
    have hb' := Lib.hid (regrown_below hw')
    clear hw'
    clear LB LA
    replace O1 := Lib.hid (O1.out.later hb'.out)
    replace O2 := Lib.hid (O2.out.later hb'.out)
    replace O3 := Lib.hid (O3.out.later hb'.out)
    replace BEL := Lib.hid (BEL.out.trans (hb'.out.mono BEL.out.size))
    have c1 := (O1.out.cell k).trans (arr_get A hk)
    have f1 := O1.out.free k
    have z1 := O1.out.lt
    have l2 := O2.out.cell
    have z2 := O2.out.lt
    obtain ⟨F, hF⟩ : ∃ F : Nat → Int, F = (fun j => if j = k then c else A j) := ⟨_, rfl⟩
    have R1 := O1.out.set k (.int .i64 c)
    rw [arr_set _ hk, ← hF] at R1
    have he2 := HE.out
    rw [← hF] at he2
    have HE2 := Lib.hid he2
    have R3 := O3.out.setFar ⟨w.heap.size, k, none⟩ (.int .i64 c) (by show w.heap.size + 1 + 1 ≠ w.heap.size; omega)
    have B3 := BEL.out.setCell (p := ⟨w.heap.size, k, none⟩) (Nat.le_refl _) (.int .i64 c)
    have HX := Lib.hid (show Own _ _ _ _ ∧ Own _ _ _ _ ∧ Below _ _ _ from ⟨R1, R3, B3⟩)
    clear R1 R3 B3 HE hF he2
    go_upto_region 4 with fail
    revert HX
    generalize w7.setCell ⟨w.heap.size, k, none⟩ (.int .i64 c) = W8
    intro HX
    have HR3 := Lib.hid HX.out.2.1
    have BR := Lib.hid HX.out.2.2
    have y1 := HX.out.1.cell
    have l3 := HX.out.2.1.cell
    have f3 := HX.out.2.1.free
    have z3 := HX.out.2.1.lt
    have z4 := HX.out.1.lt
    clear c1 f1 z1 l2 z2
    go_wp2_with fail
    have key := And.intro (st8_own HR3.out (.int .i64 (F 0)) (.int .i64 (F 1)) (.int .i64 (F 2)) (.int .i64 (F 3)) (.int .i64 (F 4)) (.int .i64 (F 5)) (.int .i64 (F 6)) (.int .i64 (F 7))) (st8_below (b := w.heap.size + 1 + 1) BR.out (by omega) (.int .i64 (F 0)) (.int .i64 (F 1)) (.int .i64 (F 2)) (.int .i64 (F 3)) (.int .i64 (F 4)) (.int .i64 (F 5)) (.int .i64 (F 6)) (.int .i64 (F 7)))
    clear y1 l3 f3 z3 z4
    unfold st8 at key
    revert key
    generalize World.setCell (World.setCell (World.setCell (World.setCell (World.setCell (World.setCell (World.setCell (World.setCell _ _ _) _ _) _ _) _ _) _ _) _ _) _ _) _ _ = WW
    rintro ⟨of, bf⟩
    have lf := of.cell
    refine bodyPost_ret (v := vecV F) (by simp [results, Tryz.results104, go_sem, lf]) rfl ⟨congrArg Ending.returned HE2.out, bf⟩
end Go.Proofs.YtjkcooakddlppaaGreat
/- Walks of layer 2: whether two items are the same. -/
namespace Go.Proofs.YtjkcooakddlppaaGreat
set_option linter.unusedVariables false
set_option linter.unusedSimpArgs false
set_option maxRecDepth 100000
open Go.RowKit
def sameB (id : ByteArray) (r c st : Int) (kd : ByteArray) (n : Int) (x y : Nat) (d : Bool) (id' : ByteArray) (r' c' st' : Int) (kd' : ByteArray) (n' : Int) (x' y' : Nat) (d' : Bool) : Bool :=
  decide (id.toList = id'.toList) && (decide (r = r') && (decide (c = c') && (decide (st = st') && (decide (kd.toList = kd'.toList) && (decide (n = n') && (decide (d = d') && (feq x x' && feq y y')))))))
set_option maxHeartbeats 1000000 in
theorem refSame_calls (id : ByteArray) (r c st : Int) (kd : ByteArray) (n : Int) (x y : Nat) (d : Bool) (id' : ByteArray) (r' c' st' : Int) (kd' : ByteArray) (n' : Int) (x' y' : Nat) (d' : Bool) (w : World) :
    Calls Tryz.prog 76 #[itemV id r c st kd n x y d, itemV id' r' c' st' kd' n' x' y' d'] w fun e w' => e = .returned (.bool (sameB id r c st kd n x y d id' r' c' st' kd' n' x' y' d')) ∧ Below w.heap.size w w' := by
  have f1 : ∀ x y, (FloatKind.f64.format.order x y == some .eq) = feq x y := fun _ _ => rfl
  go_enter Tryz.func76, Tryz.ntmps76
  go_wp2
  all_goals
    go_ret
    exact ⟨ret_bool (by simp_all [sameB]), ((Below.refl _ _).alloc (Nat.le_refl _) _).alloc (by simp) _⟩
theorem cmpV_val (a b c a' b' c' : Int) : cmpV a b c a' b' c' = 1 ∨ cmpV a b c a' b' c' = 0 ∨ cmpV a b c a' b' c' = -1 := by
  unfold cmpV orI cmpI
  split <;> split <;> (try split) <;> (try split) <;> (try split) <;> omega
end Go.Proofs.YtjkcooakddlppaaGreat
/- What is known: the document's Among, insert, walked. -/
namespace Go.Proofs.YtjkcooakddlppaaGreat
set_option linter.unusedVariables false
set_option linter.unusedSimpArgs false
set_option maxRecDepth 100000
open Go.RowKit
set_option maxHeartbeats 1000000 in
theorem among_calls (l : List ByteArray) (s : ByteArray) (v : Value) (w : World) (hR : TxW w l v) :
    Calls Tryz.prog 101 #[v, .string s] w fun e w' => e = .returned (.bool (amongB l s)) ∧ w = w' := by
  obtain ⟨oa, cap, b, o, rfl, hr⟩ := hR
  have HR := Lib.hid hr
  have hcap := hr.len
  have hmax := hr.max
  unfold maxLen at hmax
  clear hr
  generalize hres : amongB l s = res at *
  have HRES := Lib.hid hres
  clear hres
  generalize hn : l.length = len at *
  have HN := Lib.hid hn
  clear hn
  go_enter Tryz.func101, Tryz.ntmps101
  go_wp2_with fail
  go_loopw [5] (fun i wr => ∃ k : Nat, k ≤ len ∧ i = .int .i64 k ∧ Hid (∀ j x, j < k → l[j]? = some x → (x.toList == s.toList) = false) ∧ wr = w) (fun i _ => len - (intOf i).toNat)
  case atStart => exact ⟨0, Nat.zero_le _, rfl, fun j x hj => absurd hj (by omega), rfl⟩
  case round =>
    obtain ⟨k, hk, rfl, HS, rfl⟩ := hrel
    by_cases hlt : k < len
    · obtain ⟨x, hx⟩ : ∃ x, l[k]? = some x := ⟨_, List.getElem?_eq_getElem (by rw [HN.out]; exact hlt)⟩
      obtain ⟨rfl, hb0⟩ := HR.out.at0 (by rw [HN.out]; omega)
      have c0 := HR.out.cell k x hx
      cases ht : (x.toList == s.toList)
      · have HS2 := Lib.hid (show ∀ j x, j < k + 1 → l[j]? = some x → (x.toList == s.toList) = false from fun j y hj hy => by
          by_cases e : j = k
          · subst e; rw [hx] at hy; cases hy; exact ht
          · exact HS.out j y (by omega) hy)
        clear hx
        go_wp2_with fail
        go_roundw
        case rel => exact ⟨k + 1, by omega, by go_num, HS2.out, by first | rfl | trivial⟩
        case measure => simp [intOf]; omega
      · have E := Lib.hid (show res = true by
          rw [← HRES.out]; unfold amongB; rw [List.any_eq_true]
          exact ⟨x, List.mem_of_getElem? hx, ht⟩)
        clear hx
        go_wp2_with fail
        go_ret
        exact ⟨ret_bool E.out.symm, rfl⟩
    · have E := Lib.hid (show res = false by
        rw [← HRES.out]; unfold amongB; rw [List.any_eq_false]
        intro x hx
        obtain ⟨j, hj, e⟩ := List.mem_iff_getElem.1 hx
        have := HS.out j x (by have := HN.out; omega) (by rw [List.getElem?_eq_getElem hj, e])
        simp [this])
      go_wp2_with fail
      go_ret
      exact ⟨ret_bool E.out.symm, rfl⟩
def InsRel (l : List ByteArray) (s : ByteArray) (len : Nat) (w : World) (lv pv iv : Value) (wr : World) : Prop :=
  ∃ (k : Nat) (sv : Value) (p : Bool), k ≤ len ∧ iv = .int .i64 k ∧ sv = lv ∧ pv = .bool p ∧ Hid (p = (insF s (l.take k)).2) ∧ Hid ((insF s (l.take k)).1.length ≤ k + 1) ∧ Hid (OwnT wr w.heap.size (insF s (l.take k)).1 sv) ∧ Hid (Below w.heap.size w wr)
theorem insF_take {s : ByteArray} {l : List ByteArray} {k : Nat} {a : ByteArray} (h : l[k]? = some a) : insF s (l.take (k + 1)) = insStep s (insF s (l.take k)) a := by
  unfold insF; rw [takeT h, List.foldl_append]; rfl
theorem insF_len (s : ByteArray) (l : List ByteArray) : (insF s l).1.length ≤ l.length + (if (insF s l).2 = true then 1 else 0) := by
  have : ∀ (l : List ByteArray) (o : List ByteArray × Bool), (l.foldl (insStep s) o).1.length + (if o.2 = true then 1 else 0) ≤ o.1.length + l.length + (if (l.foldl (insStep s) o).2 = true then 1 else 0) := by
    intro l
    induction l with
    | nil => intro o; obtain ⟨o1, o2⟩ := o; cases o2 <;> simp
    | cons a l ih =>
      intro o
      rw [List.foldl_cons]
      have h1 := ih (insStep s o a)
      have h2 : (insStep s o a).1.length + (if o.2 = true then 1 else 0) ≤ o.1.length + 1 + (if (insStep s o a).2 = true then 1 else 0) := by
        unfold insStep
        obtain ⟨o1, o2⟩ := o
        cases o2 <;> cases hl : leB s a <;> cases ha : (a.toList == s.toList) <;> simp <;> omega
      simp only [List.length_cons]
      omega
  have := this l ([], false)
  unfold insF
  simp only [List.length_nil] at this
  simp at this
  omega
set_option maxRecDepth 100000 in
set_option maxHeartbeats 4000000 in
theorem insert_calls (l : List ByteArray) (s : ByteArray) (v : Value) (w : World) (hR : TxW w l v) (hlen : l.length ≤ 10000) :
    Calls Tryz.prog 161 #[v, .string s] w fun e w' => ∃ v', e = .returned v' ∧ OwnT w' w.heap.size (insB l s) v' ∧ Below w.heap.size w w' := by
  obtain ⟨oa, cap, b, o, rfl, hr⟩ := hR
  obtain ⟨i0, hi, hz0, hz1, hz2⟩ := info_parts info_text
  have HR := Lib.hid hr
  have hcap := hr.len
  have hmax := hr.max
  unfold maxLen at hmax
  clear hr
  generalize hn : l.length = len at *
  have HN := Lib.hid hn
  clear hn
  go_enter Tryz.func161, Tryz.ntmps161
  go_wp2_with fail
  go_loopw [5, 6, 7] (fun lv pv iv wr => InsRel l s len w lv pv iv wr) (fun _ _ iv _ => len - (intOf iv).toNat)
  case atStart => exact ⟨0, _, false, Nat.zero_le _, rfl, rfl, rfl, by simp [Hid, insF], by simp [Hid, insF], by unfold Hid; exact OwnT.nil _ _, Below.refl _ _⟩
  case round =>
    obtain ⟨k, sv, p, hk, rfl, rfl, rfl, HP, HL, HO, HB⟩ := hrel
    by_cases hlt : k < len
    · obtain ⟨a, ha⟩ : ∃ a, l[k]? = some a := ⟨_, List.getElem?_eq_getElem (by rw [HN.out]; exact hlt)⟩
      obtain ⟨rfl, hb0⟩ := HR.out.at0 (by rw [HN.out]; omega)
      have c0 := (HB.out.cell (p := ⟨b, o + k, none⟩) hb0).trans (HR.out.cell k a ha)
      have zb := Nat.lt_of_lt_of_le hb0 HB.out.size
      have zw := HB.out.size
      have HF := Lib.hid (insF_take (s := s) ha)
      have HLN := Lib.hid (Nat.le_trans (insF_len s (l.take (k + 1))) (show _ ≤ k + 1 + 1 by rw [List.length_take]; split <;> omega))
      have hlk := HL.out
      have HA := Lib.hid ha
      clear ha
      generalize hO : (insF s (l.take k)).1 = out at *
      have HFE := Lib.hid (show insF s (l.take (k + 1)) = insStep s (out, p) a by rw [HF.out, ← hO, HP.out])
      have HK := Lib.hid HL.out
      clear hO HF HP HL
      cases hle : leB s a <;> cases hea : (a.toList == s.toList) <;> cases p
      · have HE := Lib.hid (show insF s (l.take (k + 1)) = (out ++ [a], false) by rw [HFE.out]; simp [insStep, hle, hea])
        clear HFE
        unfold leB at hle
        have HP4 := Lib.hid (HO.out.alloc (.cells #[.string a] 9))
        have HQ4 := Lib.hid (HB.out.alloc zw (.cells #[.string a] 9))
        have hown4 : (wr.alloc (.cells #[.string a] 9)).ownsRow (w.heap.size) 9 1 sv (out).length (txC (out)) := HP4.out
        go_wp2_with (first | (at_builtin; refine wpList_append_lies _ (by rfl) _ _ _ (by rfl) (w.heap.size) 9 i0 _ 1 16 Tryz.underlying113 hi hz0 hz1 hz2 rfl (by omega) sv (out).length (txC (out)) (by rfl) hown4 ⟨wr.heap.size, 0, none⟩ 1 1 [.string a] (by rfl) (by rfl) newsT (oneT a) (by omega) (by unfold maxLen; omega) (by omega) (by simp; omega) (wr.heap.size + 1) (by simp) ?_; intro g4 cap4 w4 hown3 hgrow hat hlt3; have HO4 := Lib.hid (OwnT.push hown3 rfl); have HB4 := Lib.hid (below_pushT HP4.out HQ4.out (by omega) hgrow HQ4.out.size); have zw4 := HB4.out.size; clear hown4 hown3 hgrow hat hlt3 HP4 HQ4; have c4 := (HB4.out.cell (p := ⟨b, o + k, none⟩) hb0).trans (HR.out.cell k a HA.out); have zb4 := Nat.lt_of_lt_of_le hb0 HB4.out.size))
        go_roundw
        case rel => exact ⟨k + 1, _, false, by omega, by go_num, rfl, rfl, Lib.hid (by rw [HE.out]), HLN, Lib.hid (by rw [HE.out]; first | exact HO4.out | (have h := HO4.out; simp only [List.length_append, List.length_cons, List.length_nil] at h; exact h)), HB4⟩
        case measure => simp [intOf]; omega
      · have HE := Lib.hid (show insF s (l.take (k + 1)) = (out ++ [a], true) by rw [HFE.out]; simp [insStep, hle, hea])
        clear HFE
        unfold leB at hle
        have HP4 := Lib.hid (HO.out.alloc (.cells #[.string a] 9))
        have HQ4 := Lib.hid (HB.out.alloc zw (.cells #[.string a] 9))
        have hown4 : (wr.alloc (.cells #[.string a] 9)).ownsRow (w.heap.size) 9 1 sv (out).length (txC (out)) := HP4.out
        go_wp2_with (first | (at_builtin; refine wpList_append_lies _ (by rfl) _ _ _ (by rfl) (w.heap.size) 9 i0 _ 1 16 Tryz.underlying113 hi hz0 hz1 hz2 rfl (by omega) sv (out).length (txC (out)) (by rfl) hown4 ⟨wr.heap.size, 0, none⟩ 1 1 [.string a] (by rfl) (by rfl) newsT (oneT a) (by omega) (by unfold maxLen; omega) (by omega) (by simp; omega) (wr.heap.size + 1) (by simp) ?_; intro g4 cap4 w4 hown3 hgrow hat hlt3; have HO4 := Lib.hid (OwnT.push hown3 rfl); have HB4 := Lib.hid (below_pushT HP4.out HQ4.out (by omega) hgrow HQ4.out.size); have zw4 := HB4.out.size; clear hown4 hown3 hgrow hat hlt3 HP4 HQ4; have c4 := (HB4.out.cell (p := ⟨b, o + k, none⟩) hb0).trans (HR.out.cell k a HA.out); have zb4 := Nat.lt_of_lt_of_le hb0 HB4.out.size))
        go_roundw
        case rel => exact ⟨k + 1, _, true, by omega, by go_num, rfl, rfl, Lib.hid (by rw [HE.out]), HLN, Lib.hid (by rw [HE.out]; first | exact HO4.out | (have h := HO4.out; simp only [List.length_append, List.length_cons, List.length_nil] at h; exact h)), HB4⟩
        case measure => simp [intOf]; omega
      · have HE := Lib.hid (show insF s (l.take (k + 1)) = (out, false) by rw [HFE.out]; simp [insStep, hle, hea])
        clear HFE
        unfold leB at hle
        go_wp2_with fail
        go_roundw
        case rel => exact ⟨k + 1, _, false, by omega, by go_num, rfl, rfl, Lib.hid (by rw [HE.out]), HLN, Lib.hid (by rw [HE.out]; first | exact HO.out | (have h := HO.out; simp only [List.length_append, List.length_cons, List.length_nil] at h; exact h)), HB⟩
        case measure => simp [intOf]; omega
      · have HE := Lib.hid (show insF s (l.take (k + 1)) = (out, true) by rw [HFE.out]; simp [insStep, hle, hea])
        clear HFE
        unfold leB at hle
        go_wp2_with fail
        go_roundw
        case rel => exact ⟨k + 1, _, true, by omega, by go_num, rfl, rfl, Lib.hid (by rw [HE.out]), HLN, Lib.hid (by rw [HE.out]; first | exact HO.out | (have h := HO.out; simp only [List.length_append, List.length_cons, List.length_nil] at h; exact h)), HB⟩
        case measure => simp [intOf]; omega
      · have HE := Lib.hid (show insF s (l.take (k + 1)) = (out ++ [s] ++ [a], true) by rw [HFE.out]; simp [insStep, hle, hea])
        clear HFE
        unfold leB at hle
        have hlk1 : (out ++ [s]).length = (out).length + 1 := by simp
        have HP4 := Lib.hid (HO.out.alloc (.cells #[.string s] 9))
        have HQ4 := Lib.hid (HB.out.alloc zw (.cells #[.string s] 9))
        have hown4 : (wr.alloc (.cells #[.string s] 9)).ownsRow (w.heap.size) 9 1 sv (out).length (txC (out)) := HP4.out
        go_wp2_with (first | (at_builtin; refine wpList_append_lies _ (by rfl) _ _ _ (by rfl) (w.heap.size) 9 i0 _ 1 16 Tryz.underlying113 hi hz0 hz1 hz2 rfl (by omega) sv (out).length (txC (out)) (by rfl) hown4 ⟨wr.heap.size, 0, none⟩ 1 1 [.string s] (by rfl) (by rfl) newsT (oneT s) (by omega) (by unfold maxLen; omega) (by omega) (by simp; omega) (wr.heap.size + 1) (by simp) ?_; intro g4 cap4 w4 hown3 hgrow hat hlt3; have HO4 := Lib.hid (OwnT.push hown3 rfl); have HB4 := Lib.hid (below_pushT HP4.out HQ4.out (by omega) hgrow HQ4.out.size); have zw4 := HB4.out.size; clear hown4 hown3 hgrow hat hlt3 HP4 HQ4; have c4 := (HB4.out.cell (p := ⟨b, o + k, none⟩) hb0).trans (HR.out.cell k a HA.out); have zb4 := Nat.lt_of_lt_of_le hb0 HB4.out.size; have HP5 := Lib.hid (HO4.out.alloc (.cells #[.string a] 9)); have HQ5 := Lib.hid (HB4.out.alloc zw4 (.cells #[.string a] 9)); have hown5 : (w4.alloc (.cells #[.string a] 9)).ownsRow (w.heap.size) 9 1 (.slice (some ⟨g4, 0, none⟩) ((out).length + 1) cap4) (out ++ [s]).length (txC (out ++ [s])) := HP5.out) | (at_builtin; refine wpList_append_lies _ (by rfl) _ _ _ (by rfl) (w.heap.size) 9 i0 _ 1 16 Tryz.underlying113 hi hz0 hz1 hz2 rfl (by omega) (.slice (some ⟨g4, 0, none⟩) ((out).length + 1) cap4) (out ++ [s]).length (txC (out ++ [s])) (by rfl) hown5 ⟨w4.heap.size, 0, none⟩ 1 1 [.string a] (by rfl) (by rfl) newsT (oneT a) (by omega) (by unfold maxLen; omega) (by omega) (by simp; omega) (w4.heap.size + 1) (by simp) ?_; intro g5 cap5 w5 hown3 hgrow hat hlt3; have HO5 := Lib.hid (OwnT.push hown3 rfl); have HB5 := Lib.hid (below_pushT HP5.out HQ5.out (by omega) hgrow HQ5.out.size); have zw5 := HB5.out.size; clear hown5 hown3 hgrow hat hlt3 HP5 HQ5; have c5 := (HB5.out.cell (p := ⟨b, o + k, none⟩) hb0).trans (HR.out.cell k a HA.out); have zb5 := Nat.lt_of_lt_of_le hb0 HB5.out.size))
        go_roundw
        case rel => exact ⟨k + 1, _, true, by omega, by go_num, rfl, rfl, Lib.hid (by rw [HE.out]), HLN, Lib.hid (by rw [HE.out]; first | exact HO5.out | (have h := HO5.out; simp only [List.length_append, List.length_cons, List.length_nil] at h; exact h)), HB5⟩
        case measure => simp [intOf]; omega
      · have HE := Lib.hid (show insF s (l.take (k + 1)) = (out ++ [a], true) by rw [HFE.out]; simp [insStep, hle, hea])
        clear HFE
        unfold leB at hle
        have HP4 := Lib.hid (HO.out.alloc (.cells #[.string a] 9))
        have HQ4 := Lib.hid (HB.out.alloc zw (.cells #[.string a] 9))
        have hown4 : (wr.alloc (.cells #[.string a] 9)).ownsRow (w.heap.size) 9 1 sv (out).length (txC (out)) := HP4.out
        go_wp2_with (first | (at_builtin; refine wpList_append_lies _ (by rfl) _ _ _ (by rfl) (w.heap.size) 9 i0 _ 1 16 Tryz.underlying113 hi hz0 hz1 hz2 rfl (by omega) sv (out).length (txC (out)) (by rfl) hown4 ⟨wr.heap.size, 0, none⟩ 1 1 [.string a] (by rfl) (by rfl) newsT (oneT a) (by omega) (by unfold maxLen; omega) (by omega) (by simp; omega) (wr.heap.size + 1) (by simp) ?_; intro g4 cap4 w4 hown3 hgrow hat hlt3; have HO4 := Lib.hid (OwnT.push hown3 rfl); have HB4 := Lib.hid (below_pushT HP4.out HQ4.out (by omega) hgrow HQ4.out.size); have zw4 := HB4.out.size; clear hown4 hown3 hgrow hat hlt3 HP4 HQ4; have c4 := (HB4.out.cell (p := ⟨b, o + k, none⟩) hb0).trans (HR.out.cell k a HA.out); have zb4 := Nat.lt_of_lt_of_le hb0 HB4.out.size))
        go_roundw
        case rel => exact ⟨k + 1, _, true, by omega, by go_num, rfl, rfl, Lib.hid (by rw [HE.out]), HLN, Lib.hid (by rw [HE.out]; first | exact HO4.out | (have h := HO4.out; simp only [List.length_append, List.length_cons, List.length_nil] at h; exact h)), HB4⟩
        case measure => simp [intOf]; omega
      · have HE := Lib.hid (show insF s (l.take (k + 1)) = (out ++ [s], true) by rw [HFE.out]; simp [insStep, hle, hea])
        clear HFE
        unfold leB at hle
        have HP4 := Lib.hid (HO.out.alloc (.cells #[.string s] 9))
        have HQ4 := Lib.hid (HB.out.alloc zw (.cells #[.string s] 9))
        have hown4 : (wr.alloc (.cells #[.string s] 9)).ownsRow (w.heap.size) 9 1 sv (out).length (txC (out)) := HP4.out
        go_wp2_with (first | (at_builtin; refine wpList_append_lies _ (by rfl) _ _ _ (by rfl) (w.heap.size) 9 i0 _ 1 16 Tryz.underlying113 hi hz0 hz1 hz2 rfl (by omega) sv (out).length (txC (out)) (by rfl) hown4 ⟨wr.heap.size, 0, none⟩ 1 1 [.string s] (by rfl) (by rfl) newsT (oneT s) (by omega) (by unfold maxLen; omega) (by omega) (by simp; omega) (wr.heap.size + 1) (by simp) ?_; intro g4 cap4 w4 hown3 hgrow hat hlt3; have HO4 := Lib.hid (OwnT.push hown3 rfl); have HB4 := Lib.hid (below_pushT HP4.out HQ4.out (by omega) hgrow HQ4.out.size); have zw4 := HB4.out.size; clear hown4 hown3 hgrow hat hlt3 HP4 HQ4; have c4 := (HB4.out.cell (p := ⟨b, o + k, none⟩) hb0).trans (HR.out.cell k a HA.out); have zb4 := Nat.lt_of_lt_of_le hb0 HB4.out.size))
        go_roundw
        case rel => exact ⟨k + 1, _, true, by omega, by go_num, rfl, rfl, Lib.hid (by rw [HE.out]), HLN, Lib.hid (by rw [HE.out]; first | exact HO4.out | (have h := HO4.out; simp only [List.length_append, List.length_cons, List.length_nil] at h; exact h)), HB4⟩
        case measure => simp [intOf]; omega
      · have HE := Lib.hid (show insF s (l.take (k + 1)) = (out, true) by rw [HFE.out]; simp [insStep, hle, hea])
        clear HFE
        unfold leB at hle
        go_wp2_with fail
        go_roundw
        case rel => exact ⟨k + 1, _, true, by omega, by go_num, rfl, rfl, Lib.hid (by rw [HE.out]), HLN, Lib.hid (by rw [HE.out]; first | exact HO.out | (have h := HO.out; simp only [List.length_append, List.length_cons, List.length_nil] at h; exact h)), HB⟩
        case measure => simp [intOf]; omega
    · have e : len = k := by omega
      subst e
      have h1 := HO.out
      have h2 := HP.out
      have h3 := HL.out
      rw [List.take_of_length_le (by rw [HN.out]; omega)] at h1 h2 h3
      have zw := HB.out.size
      have HI := Lib.hid (show insB l s = if p = true then (insF s l).1 else (insF s l).1 ++ [s] by rw [h2]; rfl)
      clear h2 HO HP HL
      generalize (insF s l).1 = out at *
      have HO := Lib.hid h1
      clear h1
      cases p
      · have HP4 := Lib.hid (HO.out.alloc (.cells #[.string s] 9))
        have HQ4 := Lib.hid (HB.out.alloc zw (.cells #[.string s] 9))
        have hown4 : (wr.alloc (.cells #[.string s] 9)).ownsRow (w.heap.size) 9 1 sv (out).length (txC (out)) := HP4.out
        go_wp2_with (first | (at_builtin; refine wpList_append_lies _ (by rfl) _ _ _ (by rfl) (w.heap.size) 9 i0 _ 1 16 Tryz.underlying113 hi hz0 hz1 hz2 rfl (by omega) sv (out).length (txC (out)) (by rfl) hown4 ⟨wr.heap.size, 0, none⟩ 1 1 [.string s] (by rfl) (by rfl) newsT (oneT s) (by omega) (by unfold maxLen; omega) (by omega) (by simp; omega) (wr.heap.size + 1) (by simp) ?_; intro g4 cap4 w4 hown3 hgrow hat hlt3; have HO4 := Lib.hid (OwnT.push hown3 rfl); have HB4 := Lib.hid (below_pushT HP4.out HQ4.out (by omega) hgrow HQ4.out.size); have zw4 := HB4.out.size; clear hown4 hown3 hgrow hat hlt3 HP4 HQ4))
        go_ret
        exact ⟨_, rfl, by rw [HI.out]; exact HO4.out, HB4.out⟩
      · go_wp2_with fail
        go_ret
        exact ⟨_, rfl, by rw [HI.out]; exact HO.out, HB.out⟩
end Go.Proofs.YtjkcooakddlppaaGreat
/- Items by layer 2, of items as they are: plain mathematics. No walk. -/
namespace Go.Proofs.YtjkcooakddlppaaGreat
set_option linter.unusedVariables false
set_option linter.unusedSimpArgs false
set_option maxRecDepth 100000
open Go.RowKit
def mayT (i : Itm) : Bool := mayI i.id i.r i.c i.st i.kd i.num i.x i.y
def cmpT (a b : Itm) : Int := cmpV a.st a.r a.c b.st b.r b.c
def behT (a b : Itm) : Bool := decide (cmpT a b = 1)
def sameT (a b : Itm) : Bool := sameB a.id a.r a.c a.st a.kd a.num a.x a.y a.d b.id b.r b.c b.st b.kd b.num b.x b.y b.d
theorem beh_self (a : Itm) : behT a a = false := by
  unfold behT cmpT cmpV orI cmpI
  simp
theorem sameT_real {i : Itm} (hx : feq i.x i.x = true) (hy : feq i.y i.y = true) : sameT i i = true := by
  unfold sameT sameB
  simp [hx, hy]
theorem mayT_feq {i : Itm} (h : mayT i = true) : feq i.x i.x = true ∧ feq i.y i.y = true := by
  unfold mayT mayI mayB at h
  simp only [Bool.and_eq_true] at h
  exact ⟨feq_self h.2.2.2.2.2.1, feq_self h.2.2.2.2.2.2⟩
theorem refMayT_calls (i : Itm) (w : World) (hi : i.id.size ≤ maxLen) (hk : i.kd.size ≤ maxLen) :
    Calls Tryz.prog 46 #[iV i] w fun e w' => e = .returned (.bool (mayT i)) ∧ Below w.heap.size w w' :=
  refMay_calls i.id i.r i.c i.st i.kd i.num i.x i.y i.d w hi hk
theorem behT_calls (a b : Itm) (w : World) :
    Calls Tryz.prog 28 #[iV a, iV b] w fun e w' => e = .returned (.bool (behT a b)) ∧ Below w.heap.size w w' :=
  behind_calls a.id a.r a.c a.st a.kd a.num a.x a.y a.d b.id b.r b.c b.st b.kd b.num b.x b.y b.d w
theorem sameT_calls (a b : Itm) (w : World) :
    Calls Tryz.prog 76 #[iV a, iV b] w fun e w' => e = .returned (.bool (sameT a b)) ∧ Below w.heap.size w w' :=
  refSame_calls a.id a.r a.c a.st a.kd a.num a.x a.y a.d b.id b.r b.c b.st b.kd b.num b.x b.y b.d w
end Go.Proofs.YtjkcooakddlppaaGreat
