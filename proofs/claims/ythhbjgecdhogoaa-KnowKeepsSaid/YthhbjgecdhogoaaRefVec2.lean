/- The greater counts, counts with a version: the document's answers, walked. -/
import Derived.Test.YthhbjgecdhogoaaRefVec
import Derived.Test.YthhbjgecdhogoaaSet8
namespace Go.Proofs.Ythhbjgecdhogoaa
set_option linter.unusedVariables false
set_option linter.unusedSimpArgs false
open Go.RowKit

theorem arr_zero (M : Nat → Int) : arr8 (fun _ => 0) = arr8 (upTo 0 M) := arr_congr fun j _ => by unfold upTo; rw [if_neg (by omega)]
theorem arr_whole (M : Nat → Int) : arr8 (upTo 8 M) = arr8 M := arr_congr fun j h => by unfold upTo; rw [if_pos h]
theorem with_out {A : Nat → Int} {r c : Int} (h : r < 1 ∨ 8 < r) : vecV A = vecV (withV A r c) := vec_congr fun j _ => by unfold withV; rw [if_neg (by omega)]
theorem with_le {A : Nat → Int} {c : Int} {k : Nat} (hc : c ≤ A k) : vecV A = vecV (withV A ((k : Int) + 1) c) := vec_congr fun j _ => by
  unfold withV
  rw [if_neg]
  rintro ⟨h1, _, _, h2⟩
  have e : ((k : Int) + 1 - 1).toNat = k := by omega
  rw [e] at h1; subst h1; omega
theorem with_in {A : Nat → Int} {c : Int} {k : Nat} (hk : k < 8) (hc : A k < c) : vecV (fun j => if j = k then c else A j) = vecV (withV A ((k : Int) + 1) c) := vec_congr fun j _ => by
  have e : ((k : Int) + 1 - 1).toNat = k := by omega
  unfold withV
  rw [e]
  by_cases h : j = k
  · subst h; rw [if_pos rfl, if_pos ⟨rfl, by omega, by omega, hc⟩]
  · rw [if_neg h, if_neg (fun h' => h h'.1)]

set_option maxRecDepth 100000 in
set_option maxHeartbeats 4000000 in
theorem refMax_calls (A B : Nat → Int) (w : World) :
    Calls Try.prog 44 #[vecV A, vecV B] w fun e w' => e = .returned (vecV (maxV A B)) ∧ Below w.heap.size w w' := by
  have I0 : MSt A B (maxV A B) 0 w ((((w.alloc (.cells (arr8 A) 23)).alloc (.cells (arr8 B) 23)).alloc (.cells (arr8 fun _ => 0) 23)).alloc (.cells (arr8 fun _ => 0) 23)) :=
    ⟨(((Own.new w _ _).alloc _).alloc _).alloc _, ((Own.newAt _ _ _ (by simp)).alloc _).alloc _, (Own.newAt _ _ _ (by simp)).alloc _, by rw [← arr_zero]; exact Own.newAt _ _ _ (by simp), ((((Below.refl _ _).alloc (Nat.le_refl _) _).alloc (by simp) _).alloc (by simp; omega) _).alloc (by simp; omega) _⟩
  have HI0 := Lib.hid I0
  clear I0
  go_enter Try.func44, Try.ntmps44
  go_wp2_with fail
  go_loopw [6] (fun i wr => MxRel A B (maxV A B) w i wr) (fun i _ => 8 - (intOf i).toNat)
  case atStart => exact ⟨0, by omega, rfl, HI0⟩
  case round =>
    clear HI0
    obtain ⟨k, hk, rfl, HP⟩ := hrel
    by_cases hlt : k < 8
    · have ca := (HP.out.o1.cell k).trans (arr_get A hlt)
      have c4 := (HP.out.o4.cell k).trans (arr_get (upTo k (maxV A B)) hlt)
      have f4 := HP.out.o4.free k
      have z1 := HP.out.o1.lt
      have z2 := HP.out.o2.lt
      have z3 := HP.out.o3.lt
      have z4 := HP.out.o4.lt
      have k0 : (0 : Int) ≤ (k : Int) := by omega
      have k1 : (k : Int) < 8 := by omega
      -- behind the first store
      have P1 := (HP.out.put hlt (A k)).1
      have b1 := HP.out.bel.setCell (p := ⟨w.heap.size + 1 + 1 + 1, k, none⟩) (by show w.heap.size ≤ w.heap.size + 1 + 1 + 1; omega) (.int .i64 (A k))
      have q1 := HP.out.o1.setFar ⟨w.heap.size + 1 + 1 + 1, k, none⟩ (.int .i64 (A k)) (by show w.heap.size ≠ w.heap.size + 1 + 1 + 1; omega)
      have q2 := HP.out.o2.setFar ⟨w.heap.size + 1 + 1 + 1, k, none⟩ (.int .i64 (A k)) (by show w.heap.size + 1 ≠ w.heap.size + 1 + 1 + 1; omega)
      have q3 := HP.out.o3.setFar ⟨w.heap.size + 1 + 1 + 1, k, none⟩ (.int .i64 (A k)) (by show w.heap.size + 1 + 1 ≠ w.heap.size + 1 + 1 + 1; omega)
      have HQ := Lib.hid (show Own _ _ _ _ ∧ Own _ _ _ _ ∧ Own _ _ _ _ ∧ Own _ _ _ _ ∧ Below _ _ _ from ⟨q1, q2, q3, P1, b1⟩)
      clear P1 b1 q1 q2 q3
      have LA := fun dd os => (HQ.out.1.has.regrown dd os k).trans (arr_get A hlt)
      have LB := fun dd os => (HQ.out.2.1.has.regrown dd os k).trans (arr_get B hlt)
      by_cases h : A k < B k
      · have g : decide (A k < B k) = true := decide_eq_true h
        have hm : maxV A B k = B k := by unfold maxV; rw [if_pos h]
        go_wp2_with fail
        refine wp_region_quiet_below (by kernel_rfl) (by kernel_rfl) ?_
        repeat (first | go_big_quiet_step (fail) | quiet_step (fail))
        refine wpQuiet_nil ?_
        intro w7 hw'
        have hb' := Lib.hid (regrown_below hw')
        clear hw'
        clear LA LB
        have O1 := HQ.out.1.later hb'.out
        have O2 := HQ.out.2.1.later hb'.out
        have O3 := HQ.out.2.2.1.later hb'.out
        have O4 := HQ.out.2.2.2.1.later hb'.out
        have B4 := HQ.out.2.2.2.2.trans (hb'.out.mono HQ.out.2.2.2.2.size)
        have cb := (O2.cell k).trans (arr_get B hlt)
        have c5 := (O4.cell k).trans (arr_get _ hlt)
        have f5 := O4.free k
        have y2 := O2.lt
        have y4 := O4.lt
        have R1 := O1.setFar ⟨w.heap.size + 1 + 1 + 1, k, none⟩ (.int .i64 (B k)) (by show w.heap.size ≠ w.heap.size + 1 + 1 + 1; omega)
        have R2 := O2.setFar ⟨w.heap.size + 1 + 1 + 1, k, none⟩ (.int .i64 (B k)) (by show w.heap.size + 1 ≠ w.heap.size + 1 + 1 + 1; omega)
        have R3 := O3.setFar ⟨w.heap.size + 1 + 1 + 1, k, none⟩ (.int .i64 (B k)) (by show w.heap.size + 1 + 1 ≠ w.heap.size + 1 + 1 + 1; omega)
        have R4 := O4.set k (.int .i64 (B k))
        rw [arr_set _ hlt] at R4
        have R5 := B4.setCell (p := ⟨w.heap.size + 1 + 1 + 1, k, none⟩) (by show w.heap.size ≤ w.heap.size + 1 + 1 + 1; omega) (.int .i64 (B k))
        have HR := Lib.hid (HP.out.step R1 R2 R3 (by
          have e : arr8 (fun j => if j = k then B k else (fun j => if j = k then A k else upTo k (maxV A B) j) j) = arr8 (fun j => if j = k then maxV A B k else upTo k (maxV A B) j) := arr_congr fun j _ => by
            by_cases hj : j = k
            · simp [hj, hm]
            · simp [hj]
          rw [← e]; exact R4) R5)
        clear O1 O2 O3 O4 B4 R1 R2 R3 R4 R5 ca c4 f4
        go_wp2_with fail
        go_roundw
        case rel => exact ⟨k + 1, by omega, by go_num, HR⟩
        case measure => simp [intOf]; omega
      · have g : decide (A k < B k) = false := decide_eq_false h
        have hm : maxV A B k = A k := by unfold maxV; rw [if_neg h]
        have HS := Lib.hid (HP.out.step HQ.out.1 HQ.out.2.1 HQ.out.2.2.1 (by rw [hm]; exact HQ.out.2.2.2.1) HQ.out.2.2.2.2)
        go_wp2_with fail
        refine wp_region_quiet_below (by kernel_rfl) (by kernel_rfl) ?_
        repeat (first | go_big_quiet_step (fail) | quiet_step (fail))
        refine wpQuiet_nil ?_
        intro w7 hw'
        have hb' := Lib.hid (regrown_below hw')
        clear hw'
        clear LA LB ca c4 f4
        go_wp2_with fail
        go_roundw
        case rel => exact ⟨k + 1, by omega, by go_num, Lib.hid (HS.out.later hb'.out)⟩
        case measure => simp [intOf]; omega
    · have e : k = 8 := by omega
      subst e
      have o4 := HP.out.o4
      rw [arr_whole] at o4
      have l3 := HP.out.o3.cell
      have f3 := HP.out.o3.free
      have z3 := HP.out.o3.lt
      have l4 := o4.cell
      have z4 := o4.lt
      have BEL := Lib.hid HP.out.bel
      go_wp2_with fail
      have key := And.intro (st8_own HP.out.o3 (.int .i64 ((maxV A B) 0)) (.int .i64 ((maxV A B) 1)) (.int .i64 ((maxV A B) 2)) (.int .i64 ((maxV A B) 3)) (.int .i64 ((maxV A B) 4)) (.int .i64 ((maxV A B) 5)) (.int .i64 ((maxV A B) 6)) (.int .i64 ((maxV A B) 7))) (st8_below (b := w.heap.size + 1 + 1) BEL.out (by omega) (.int .i64 ((maxV A B) 0)) (.int .i64 ((maxV A B) 1)) (.int .i64 ((maxV A B) 2)) (.int .i64 ((maxV A B) 3)) (.int .i64 ((maxV A B) 4)) (.int .i64 ((maxV A B) 5)) (.int .i64 ((maxV A B) 6)) (.int .i64 ((maxV A B) 7)))
      clear l3 f3 z3 l4 z4
      unfold st8 at key
      revert key
      generalize World.setCell (World.setCell (World.setCell (World.setCell (World.setCell (World.setCell (World.setCell (World.setCell _ _ _) _ _) _ _) _ _) _ _) _ _) _ _) _ _ = WW
      rintro ⟨of, bf⟩
      have lf := of.cell
      refine bodyPost_ret (v := vecV ((maxV A B))) (by simp [results, Try.results44, go_sem, lf]) rfl ⟨rfl, bf⟩

set_option maxRecDepth 100000 in
set_option maxHeartbeats 4000000 in
theorem refWith_calls (A : Nat → Int) (r c : Int) (w : World) :
    Calls Try.prog 31 #[vecV A, .agg #[.int .i64 r, .int .i64 c]] w fun e w' => e = .returned (vecV (withV A r c)) ∧ Below w.heap.size w w' := by
  have O1 := Lib.hid (((Own.new w (arr8 A) 23).alloc (.cells #[.int .i64 r, .int .i64 c] 28)).alloc (.cells (arr8 fun _ => 0) 23))
  have O2 := Lib.hid ((Own.newAt (w.alloc (.cells (arr8 A) 23)) #[.int .i64 r, .int .i64 c] 28 (b := w.heap.size + 1) (by simp)).alloc (.cells (arr8 fun _ => 0) 23))
  have O3 := Lib.hid (Own.newAt ((w.alloc (.cells (arr8 A) 23)).alloc (.cells #[.int .i64 r, .int .i64 c] 28)) (arr8 fun _ => 0) 23 (b := w.heap.size + 1 + 1) (by simp))
  have BEL := Lib.hid ((((Below.refl w.heap.size w).alloc (Nat.le_refl _) (.cells (arr8 A) 23)).alloc (by simp) (.cells #[.int .i64 r, .int .i64 c] 28)).alloc (by simp; omega) (.cells (arr8 fun _ => 0) 23))
  have LB := fun dd os o => O2.out.has.regrown dd os o
  by_cases h1 : r < 1
  · have HE := Lib.hid (with_out (A := A) (r := r) (c := c) (.inl h1))
    have g1 : decide (r < 1) = true := decide_eq_true h1
    go_enter Try.func31, Try.ntmps31
    go_wp2_with fail
    refine wp_region_quiet_below (by kernel_rfl) (by kernel_rfl) ?_
    repeat (first | go_big_quiet_step (fail) | quiet_step (fail))
    refine wpQuiet_nil ?_
    intro w7 hw'
    have hb' := Lib.hid (regrown_below hw')
    clear hw'
    clear LB
    replace O1 := Lib.hid (O1.out.later hb'.out)
    replace O2 := Lib.hid (O2.out.later hb'.out)
    replace O3 := Lib.hid (O3.out.later hb'.out)
    replace BEL := Lib.hid (BEL.out.trans (hb'.out.mono BEL.out.size))
    have l1 := O1.out.cell
    have z1 := O1.out.lt
    have l3 := O3.out.cell
    have f3 := O3.out.free
    have z3 := O3.out.lt
    go_wp2_with fail
    have key := And.intro (st8_own O3.out (.int .i64 (A 0)) (.int .i64 (A 1)) (.int .i64 (A 2)) (.int .i64 (A 3)) (.int .i64 (A 4)) (.int .i64 (A 5)) (.int .i64 (A 6)) (.int .i64 (A 7))) (st8_below (b := w.heap.size + 1 + 1) BEL.out (by omega) (.int .i64 (A 0)) (.int .i64 (A 1)) (.int .i64 (A 2)) (.int .i64 (A 3)) (.int .i64 (A 4)) (.int .i64 (A 5)) (.int .i64 (A 6)) (.int .i64 (A 7)))
    clear l1 z1 l3 f3 z3
    unfold st8 at key
    revert key
    generalize World.setCell (World.setCell (World.setCell (World.setCell (World.setCell (World.setCell (World.setCell (World.setCell _ _ _) _ _) _ _) _ _) _ _) _ _) _ _) _ _ = WW
    rintro ⟨of, bf⟩
    have lf := of.cell
    refine bodyPost_ret (v := vecV A) (by simp [results, Try.results31, go_sem, lf]) rfl ⟨congrArg Ending.returned HE.out, bf⟩
  by_cases h2 : 8 < r
  · have HE := Lib.hid (with_out (A := A) (r := r) (c := c) (.inr h2))
    have g1 : decide (r < 1) = false := decide_eq_false h1
    have g2 : decide (8 < r) = true := decide_eq_true h2
    go_enter Try.func31, Try.ntmps31
    go_wp2_with fail
    refine wp_region_quiet_below (by kernel_rfl) (by kernel_rfl) ?_
    repeat (first | go_big_quiet_step (fail) | quiet_step (fail))
    refine wpQuiet_nil ?_
    intro w7 hw'
    have hb' := Lib.hid (regrown_below hw')
    clear hw'
    clear LB
    replace O1 := Lib.hid (O1.out.later hb'.out)
    replace O2 := Lib.hid (O2.out.later hb'.out)
    replace O3 := Lib.hid (O3.out.later hb'.out)
    replace BEL := Lib.hid (BEL.out.trans (hb'.out.mono BEL.out.size))
    have l1 := O1.out.cell
    have z1 := O1.out.lt
    have l3 := O3.out.cell
    have f3 := O3.out.free
    have z3 := O3.out.lt
    go_wp2_with fail
    have key := And.intro (st8_own O3.out (.int .i64 (A 0)) (.int .i64 (A 1)) (.int .i64 (A 2)) (.int .i64 (A 3)) (.int .i64 (A 4)) (.int .i64 (A 5)) (.int .i64 (A 6)) (.int .i64 (A 7))) (st8_below (b := w.heap.size + 1 + 1) BEL.out (by omega) (.int .i64 (A 0)) (.int .i64 (A 1)) (.int .i64 (A 2)) (.int .i64 (A 3)) (.int .i64 (A 4)) (.int .i64 (A 5)) (.int .i64 (A 6)) (.int .i64 (A 7)))
    clear l1 z1 l3 f3 z3
    unfold st8 at key
    revert key
    generalize World.setCell (World.setCell (World.setCell (World.setCell (World.setCell (World.setCell (World.setCell (World.setCell _ _ _) _ _) _ _) _ _) _ _) _ _) _ _) _ _ = WW
    rintro ⟨of, bf⟩
    have lf := of.cell
    refine bodyPost_ret (v := vecV A) (by simp [results, Try.results31, go_sem, lf]) rfl ⟨congrArg Ending.returned HE.out, bf⟩
  obtain ⟨k, rfl⟩ : ∃ k : Nat, r = (k : Int) + 1 := ⟨(r - 1).toNat, by omega⟩
  have hk : k < 8 := by omega
  have g1 : decide ((k : Int) + 1 < 1) = false := decide_eq_false h1
  have g2 : decide (8 < (k : Int) + 1) = false := decide_eq_false h2
  have g3 : (k : Int) + 1 - 1 = (k : Int) := by omega
  have k0 : (0 : Int) ≤ (k : Int) := by omega
  have k1 : (k : Int) < 8 := by omega
  have LA := fun dd os => (O1.out.has.regrown dd os k).trans (arr_get A hk)
  clear h1 h2
  by_cases h : c ≤ A k
  · have HE := Lib.hid (with_le (A := A) (k := k) h)
    have g4 : decide (c ≤ A k) = true := decide_eq_true h
    go_enter Try.func31, Try.ntmps31
    go_wp2_with fail
    refine wp_region_quiet_below (by kernel_rfl) (by kernel_rfl) ?_
    repeat (first | go_big_quiet_step (fail) | quiet_step (fail))
    refine wpQuiet_nil ?_
    intro w7 hw'
    have hb' := Lib.hid (regrown_below hw')
    clear hw'
    clear LB LA
    replace O1 := Lib.hid (O1.out.later hb'.out)
    replace O2 := Lib.hid (O2.out.later hb'.out)
    replace O3 := Lib.hid (O3.out.later hb'.out)
    replace BEL := Lib.hid (BEL.out.trans (hb'.out.mono BEL.out.size))
    have l1 := O1.out.cell
    have z1 := O1.out.lt
    have l3 := O3.out.cell
    have f3 := O3.out.free
    have z3 := O3.out.lt
    go_wp2_with fail
    have key := And.intro (st8_own O3.out (.int .i64 (A 0)) (.int .i64 (A 1)) (.int .i64 (A 2)) (.int .i64 (A 3)) (.int .i64 (A 4)) (.int .i64 (A 5)) (.int .i64 (A 6)) (.int .i64 (A 7))) (st8_below (b := w.heap.size + 1 + 1) BEL.out (by omega) (.int .i64 (A 0)) (.int .i64 (A 1)) (.int .i64 (A 2)) (.int .i64 (A 3)) (.int .i64 (A 4)) (.int .i64 (A 5)) (.int .i64 (A 6)) (.int .i64 (A 7)))
    clear l1 z1 l3 f3 z3
    unfold st8 at key
    revert key
    generalize World.setCell (World.setCell (World.setCell (World.setCell (World.setCell (World.setCell (World.setCell (World.setCell _ _ _) _ _) _ _) _ _) _ _) _ _) _ _) _ _ = WW
    rintro ⟨of, bf⟩
    have lf := of.cell
    refine bodyPost_ret (v := vecV A) (by simp [results, Try.results31, go_sem, lf]) rfl ⟨congrArg Ending.returned HE.out, bf⟩
  · have HE := Lib.hid (with_in (A := A) (k := k) (c := c) hk (by omega))
    have g4 : decide (c ≤ A k) = false := decide_eq_false h
    go_enter Try.func31, Try.ntmps31
    go_wp2_with fail
    refine wp_region_quiet_below (by kernel_rfl) (by kernel_rfl) ?_
    repeat (first | go_big_quiet_step (fail) | quiet_step (fail))
    refine wpQuiet_nil ?_
    intro w7 hw'
    have hb' := Lib.hid (regrown_below hw')
    clear hw'
    clear LB LA
    replace O1 := Lib.hid (O1.out.later hb'.out)
    replace O2 := Lib.hid (O2.out.later hb'.out)
    replace O3 := Lib.hid (O3.out.later hb'.out)
    replace BEL := Lib.hid (BEL.out.trans (hb'.out.mono BEL.out.size))
    have c1 := (O1.out.cell k).trans (arr_get A hk)
    have f1 := O1.out.free k
    have z1 := O1.out.lt
    have l2 := O2.out.cell
    have z2 := O2.out.lt
    obtain ⟨F, hF⟩ : ∃ F : Nat → Int, F = (fun j => if j = k then c else A j) := ⟨_, rfl⟩
    have R1 := O1.out.set k (.int .i64 c)
    rw [arr_set _ hk, ← hF] at R1
    have he2 := HE.out
    rw [← hF] at he2
    have HE2 := Lib.hid he2
    have R3 := O3.out.setFar ⟨w.heap.size, k, none⟩ (.int .i64 c) (by show w.heap.size + 1 + 1 ≠ w.heap.size; omega)
    have B3 := BEL.out.setCell (p := ⟨w.heap.size, k, none⟩) (Nat.le_refl _) (.int .i64 c)
    have HX := Lib.hid (show Own _ _ _ _ ∧ Own _ _ _ _ ∧ Below _ _ _ from ⟨R1, R3, B3⟩)
    clear R1 R3 B3 HE hF he2
    go_upto_region 4 with fail
    revert HX
    generalize w7.setCell ⟨w.heap.size, k, none⟩ (.int .i64 c) = W8
    intro HX
    have HR3 := Lib.hid HX.out.2.1
    have BR := Lib.hid HX.out.2.2
    have y1 := HX.out.1.cell
    have l3 := HX.out.2.1.cell
    have f3 := HX.out.2.1.free
    have z3 := HX.out.2.1.lt
    have z4 := HX.out.1.lt
    clear c1 f1 z1 l2 z2
    go_wp2_with fail
    have key := And.intro (st8_own HR3.out (.int .i64 (F 0)) (.int .i64 (F 1)) (.int .i64 (F 2)) (.int .i64 (F 3)) (.int .i64 (F 4)) (.int .i64 (F 5)) (.int .i64 (F 6)) (.int .i64 (F 7))) (st8_below (b := w.heap.size + 1 + 1) BR.out (by omega) (.int .i64 (F 0)) (.int .i64 (F 1)) (.int .i64 (F 2)) (.int .i64 (F 3)) (.int .i64 (F 4)) (.int .i64 (F 5)) (.int .i64 (F 6)) (.int .i64 (F 7)))
    clear y1 l3 f3 z3 z4
    unfold st8 at key
    revert key
    generalize World.setCell (World.setCell (World.setCell (World.setCell (World.setCell (World.setCell (World.setCell (World.setCell _ _ _) _ _) _ _) _ _) _ _) _ _) _ _) _ _ = WW
    rintro ⟨of, bf⟩
    have lf := of.cell
    refine bodyPost_ret (v := vecV F) (by simp [results, Try.results31, go_sem, lf]) rfl ⟨congrArg Ending.returned HE2.out, bf⟩

end Go.Proofs.Ythhbjgecdhogoaa
