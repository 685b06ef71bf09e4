/- Counts of replicas: the code's own walks (Has, With, Max, In, May). -/
import Derived.Test.YtphomlolfadbpaaRefVec2
import Derived.StillTailTactics
namespace Go.Proofs.Ytphomlolfadbpaa
open Go.RowKit

def repB (r : Int) : Bool := decide (1 ≤ r) && decide (r ≤ 8)
set_option maxHeartbeats 1000000 in
theorem replica_calls (r : Int) (w : World) :
    Calls Try.prog 16 #[.int .i64 r] w fun e w' => e = .returned (.bool (repB r)) ∧ w' = w := by
  unfold repB
  cases g1 : decide (1 ≤ r)
  all_goals
    cases g2 : decide (r ≤ 8)
    all_goals
      go_enter Try.func16, Try.ntmps16
      go_wp2_with fail
      go_ret
      simp

theorem replica_quiet (r : Int) (w : World) :
    Calls Try.prog 16 #[.int .i64 r] w fun e w' => e = .returned (.bool (repB r)) ∧ Below w.heap.size w w' :=
  (replica_calls r w).mono (by rintro e w' ⟨h, rfl⟩; exact ⟨h, Below.refl _ _⟩)
theorem idx8_0 (A : Nat → Int) (w : World) : (Instr.index 23 (vecV A) (.int .i64 0)).run Try.prog w = .ok (.int .i64 (A 0)) w := by kernel_rfl
theorem idx8_1 (A : Nat → Int) (w : World) : (Instr.index 23 (vecV A) (.int .i64 1)).run Try.prog w = .ok (.int .i64 (A 1)) w := by kernel_rfl
theorem idx8_2 (A : Nat → Int) (w : World) : (Instr.index 23 (vecV A) (.int .i64 2)).run Try.prog w = .ok (.int .i64 (A 2)) w := by kernel_rfl
theorem idx8_3 (A : Nat → Int) (w : World) : (Instr.index 23 (vecV A) (.int .i64 3)).run Try.prog w = .ok (.int .i64 (A 3)) w := by kernel_rfl
theorem idx8_4 (A : Nat → Int) (w : World) : (Instr.index 23 (vecV A) (.int .i64 4)).run Try.prog w = .ok (.int .i64 (A 4)) w := by kernel_rfl
theorem idx8_5 (A : Nat → Int) (w : World) : (Instr.index 23 (vecV A) (.int .i64 5)).run Try.prog w = .ok (.int .i64 (A 5)) w := by kernel_rfl
theorem idx8_6 (A : Nat → Int) (w : World) : (Instr.index 23 (vecV A) (.int .i64 6)).run Try.prog w = .ok (.int .i64 (A 6)) w := by kernel_rfl
theorem idx8_7 (A : Nat → Int) (w : World) : (Instr.index 23 (vecV A) (.int .i64 7)).run Try.prog w = .ok (.int .i64 (A 7)) w := by kernel_rfl
theorem idx8 (A : Nat → Int) {k : Nat} (h : k < 8) (w : World) : (Instr.index 23 (vecV A) (.int .i64 (k : Int))).run Try.prog w = .ok (.int .i64 (A k)) w := by
  match k, h with
  | 0, _ => exact idx8_0 A w
  | 1, _ => exact idx8_1 A w
  | 2, _ => exact idx8_2 A w
  | 3, _ => exact idx8_3 A w
  | 4, _ => exact idx8_4 A w
  | 5, _ => exact idx8_5 A w
  | 6, _ => exact idx8_6 A w
  | 7, _ => exact idx8_7 A w

theorem rep_no {r : Int} (h : r < 1 ∨ 8 < r) : repB r = false := by
  unfold repB
  rcases h with h | h
  · rw [show decide (1 ≤ r) = false from decide_eq_false (by omega)]; rfl
  · rw [show decide (r ≤ 8) = false from decide_eq_false (by omega)]; simp
theorem rep_yes {k : Nat} (h : k < 8) : repB ((k : Int) + 1) = true := by
  unfold repB
  rw [show decide (1 ≤ (k : Int) + 1) = true from decide_eq_true (by omega), show decide ((k : Int) + 1 ≤ 8) = true from decide_eq_true (by omega)]
  rfl
theorem has_out {A : Nat → Int} {r c : Int} (h : r < 1 ∨ 8 < r) : hasV A r c = false := by
  unfold hasV
  rw [cnt_out h]
  by_cases h1 : 1 ≤ c
  · rw [show decide (c ≤ 0) = false from decide_eq_false (by omega)]; simp
  · rw [decide_eq_false h1]; rfl

set_option maxRecDepth 100000 in
set_option maxHeartbeats 2000000 in
theorem vecHas_calls (A : Nat → Int) (r c : Int) (w : World) :
    Calls Try.prog 6 #[vecV A, .agg #[.int .i64 r, .int .i64 c]] w fun e w' => e = .returned (.bool (hasV A r c)) ∧ Below w.heap.size w w' := by
  have G1 := Lib.hid ((Has.new w (arr8 A) 23).alloc (.cells #[.int .i64 r, .int .i64 c] 25))
  have G2 := Lib.hid ((Own.newAt (w.alloc (.cells (arr8 A) 23)) #[.int .i64 r, .int .i64 c] 25 (b := w.heap.size + 1) (by simp)).has)
  have LA := fun dd os o => G1.out.regrown dd os o
  have LB := fun dd os o => G2.out.regrown dd os o
  have m := fun dd os => Lib.hid (Calls.regrown_of (replica_quiet r (Sort.grow (redrawn ((w.alloc (.cells (arr8 A) 23)).alloc (.cells #[.int .i64 r, .int .i64 c] 25)) dd) os)))
  by_cases h : r < 1 ∨ 8 < r
  · have E := Lib.hid (has_out (A := A) (c := c) h)
    have e := rep_no h
    clear h
    rw [e] at m
    clear e
    cases hg : decide (1 ≤ c)
    all_goals
      go_enter Try.func6, Try.ntmps6
      go_wp2_with fail
      refine wp_region_quiet_below (by kernel_rfl) (by kernel_rfl) ?_
      repeat (first | go_big_quiet_step ((with_reducible exact (m _ _).out)) | quiet_step (with_reducible exact (m _ _).out))
      refine wpQuiet_nil ?_
      intro w7 hw'
      have hb' := Lib.hid (regrown_below hw')
      clear hw'
      go_wp2_with fail
      go_ret
      exact ⟨ret_bool E.out.symm, below_new (below_new hb'.out)⟩
  · obtain ⟨k, rfl⟩ : ∃ k : Nat, r = (k : Int) + 1 := ⟨(r - 1).toNat, by omega⟩
    have hk : k < 8 := by omega
    clear h
    have e := rep_yes hk
    rw [e] at m
    clear e
    have E := Lib.hid (show hasV A ((k : Int) + 1) c = (decide (1 ≤ c) && decide (c ≤ A k)) by unfold hasV; rw [cnt_in hk])
    have g3 : (k : Int) + 1 - 1 = (k : Int) := by omega
    have LC := fun dd os => (G1.out.regrown dd os k).trans (arr_get A hk)
    clear LA
    have k0 : (0 : Int) ≤ (k : Int) := by omega
    have k1 : (k : Int) < 8 := by omega
    generalize hasV A ((k : Int) + 1) c = R at *
    cases hg : decide (1 ≤ c)
    all_goals
      go_enter Try.func6, Try.ntmps6
      go_wp2_with fail
      refine wp_region_quiet_below (by kernel_rfl) (by kernel_rfl) ?_
      repeat (first | go_big_quiet_step ((with_reducible exact (m _ _).out)) | quiet_step (with_reducible exact (m _ _).out))
      refine wpQuiet_nil ?_
      intro w7 hw'
      have hb' := Lib.hid (regrown_below hw')
      clear hw'
      go_wp2_with fail
      go_ret
      exact ⟨ret_bool (by rw [E.out, hg]; simp), below_new (below_new hb'.out)⟩

set_option maxHeartbeats 2000000 in
theorem vecIn_calls (A B : Nat → Int) (w : World) :
    Calls Try.prog 12 #[vecV A, vecV B] w fun e w' => e = .returned (.bool (inV A B)) ∧ Below w.heap.size w w' := by
  go_enter Try.func12, Try.ntmps12
  go_wp2_with fail
  go_loopw [8] (fun i wr => AllRel (fun j => A j ≤ B j) ((w.alloc (.cells (arr8 A) 23)).alloc (.cells (arr8 B) 23)) i wr) (fun i _ => 8 - (intOf i).toNat)
  case atStart => exact ⟨0, by omega, rfl, fun j hj => absurd hj (by omega), Below.refl _ _⟩
  case round =>
    obtain ⟨k, hk, rfl, HS, hb⟩ := hrel
    have BW := Lib.hid (below_new (below_new hb))
    have G2 := Lib.hid ((Own.newAt (w.alloc (.cells (arr8 A) 23)) (arr8 B) 23 (b := w.heap.size + 1) (by simp)).has.below hb (by simp))
    have HB := Lib.hid hb
    clear hb
    by_cases hlt : k < 8
    · have ix := fun w => idx8 A hlt w
      have c := (G2.out.cell k).trans (arr_get B hlt)
      have k0 : (0 : Int) ≤ (k : Int) := by omega
      have k1 : (k : Int) < 8 := by omega
      by_cases h : B k < A k
      · have E := Lib.hid (inV_false hlt h)
        have g : decide (B k < A k) = true := decide_eq_true h
        go_wp2_with fail
        go_ret
        exact ⟨ret_bool E.out.symm, BW.out⟩
      · have g : decide (B k < A k) = false := decide_eq_false h
        have HN := Lib.hid (all_step (P := fun j => A j ≤ B j) HS.out (by omega))
        go_wp2_with fail
        go_roundw
        case rel => exact ⟨k + 1, by omega, by go_num, HN.out, HB.out⟩
        case measure => simp [intOf]; omega
    · have e : k = 8 := by omega
      subst e
      have E := Lib.hid (inV_iff.2 HS.out)
      go_wp2_with fail
      go_ret
      exact ⟨ret_bool E.out.symm, BW.out⟩

set_option maxHeartbeats 2000000 in
theorem vecMay_calls (A : Nat → Int) (w : World) :
    Calls Try.prog 14 #[vecV A] w fun e w' => e = .returned (.bool (mayV A)) ∧ Below w.heap.size w w' := by
  go_enter Try.func14, Try.ntmps14
  go_wp2_with fail
  go_loopw [6] (fun i wr => AllRel (fun j => 0 ≤ A j ∧ A j ≤ 1000) (w.alloc (.cells (arr8 A) 23)) i wr) (fun i _ => 8 - (intOf i).toNat)
  case atStart => exact ⟨0, by omega, rfl, fun j hj => absurd hj (by omega), Below.refl _ _⟩
  case round =>
    obtain ⟨k, hk, rfl, HS, hb⟩ := hrel
    have BW := Lib.hid (below_new hb)
    have HB := Lib.hid hb
    clear hb
    by_cases hlt : k < 8
    · have ix := fun w => idx8 A hlt w
      have k0 : (0 : Int) ≤ (k : Int) := by omega
      have k1 : (k : Int) < 8 := by omega
      by_cases h : A k < 0
      · have E := Lib.hid (mayV_false hlt (.inl h))
        have g : decide (A k < 0) = true := decide_eq_true h
        go_wp2_with fail
        go_ret
        exact ⟨ret_bool E.out.symm, BW.out⟩
      by_cases h' : 1000 < A k
      · have E := Lib.hid (mayV_false hlt (.inr h'))
        have g : decide (A k < 0) = false := decide_eq_false h
        have g' : decide (1000 < A k) = true := decide_eq_true h'
        go_wp2_with fail
        go_ret
        exact ⟨ret_bool E.out.symm, BW.out⟩
      · have HN := Lib.hid (all_step (P := fun j => 0 ≤ A j ∧ A j ≤ 1000) HS.out (by omega))
        have g : decide (A k < 0) = false := decide_eq_false h
        have g' : decide (1000 < A k) = false := decide_eq_false h'
        go_wp2_with fail
        go_roundw
        case rel => exact ⟨k + 1, by omega, by go_num, HN.out, HB.out⟩
        case measure => simp [intOf]; omega
    · have e : k = 8 := by omega
      subst e
      have E := Lib.hid (mayV_iff.2 HS.out)
      go_wp2_with fail
      go_ret
      exact ⟨ret_bool E.out.symm, BW.out⟩

/-- The first counts are the greater ones, the others a's own. -/
def mx8 (A B : Nat → Int) (k : Nat) (j : Nat) : Int := if j < k then maxV A B j else A j
theorem mx8_zero (A B : Nat → Int) : arr8 A = arr8 (mx8 A B 0) := arr_congr fun j _ => by unfold mx8; rw [if_neg (by omega)]
theorem mx8_whole (A B : Nat → Int) : arr8 (mx8 A B 8) = arr8 (maxV A B) := arr_congr fun j h => by unfold mx8; rw [if_pos h]
theorem mx8_put (A B : Nat → Int) {k : Nat} {v : Int} (hv : v = maxV A B k) : arr8 (fun j => if j = k then v else mx8 A B k j) = arr8 (mx8 A B (k + 1)) := arr_congr fun j _ => by
  unfold mx8
  by_cases e : j = k
  · subst e; rw [if_pos rfl, if_pos (by omega)]; exact hv
  · rw [if_neg e]
    by_cases h : j < k
    · rw [if_pos h, if_pos (by omega)]
    · rw [if_neg h, if_neg (by omega)]
structure CMx (A B : Nat → Int) (k : Nat) (w wr : World) : Prop where
  o1 : Own wr w.heap.size (arr8 (mx8 A B k)) 23
  o2 : Own wr (w.heap.size + 1) (arr8 B) 23
  o3 : Own wr (w.heap.size + 1 + 1) (arr8 fun _ => 0) 23
  bel : Below w.heap.size w wr
def CMxRel (A B : Nat → Int) (w : World) (i : Value) (wr : World) : Prop := ∃ k : Nat, k ≤ 8 ∧ i = .int .i64 k ∧ Hid (CMx A B k w wr)

set_option maxRecDepth 100000 in
set_option maxHeartbeats 4000000 in
theorem vecMax_calls (A B : Nat → Int) (w : World) :
    Calls Try.prog 10 #[vecV A, vecV B] w fun e w' => e = .returned (vecV (maxV A B)) ∧ Below w.heap.size w w' := by
  have I0 : CMx A B 0 w (((w.alloc (.cells (arr8 A) 23)).alloc (.cells (arr8 B) 23)).alloc (.cells (arr8 fun _ => 0) 23)) :=
    ⟨by rw [← mx8_zero]; exact ((Own.new w _ _).alloc _).alloc _, (Own.newAt _ _ _ (by simp)).alloc _, Own.newAt _ _ _ (by simp), (((Below.refl _ _).alloc (Nat.le_refl _) _).alloc (by simp) _).alloc (by simp; omega) _⟩
  have HI0 := Lib.hid I0
  clear I0
  go_enter Try.func10, Try.ntmps10
  go_wp2_with fail
  go_loopw [8] (fun i wr => CMxRel A B w i wr) (fun i _ => 8 - (intOf i).toNat)
  case atStart => exact ⟨0, by omega, rfl, HI0⟩
  case round =>
    clear HI0
    obtain ⟨k, hk, rfl, HP⟩ := hrel
    by_cases hlt : k < 8
    · have ix := fun w => idx8 B hlt w
      have ca := (HP.out.o1.cell k).trans (arr_get (mx8 A B k) hlt)
      rw [show mx8 A B k k = A k by unfold mx8; rw [if_neg (by omega)]] at ca
      have fa := HP.out.o1.free k
      have z1 := HP.out.o1.lt
      have k0 : (0 : Int) ≤ (k : Int) := by omega
      have k1 : (k : Int) < 8 := by omega
      have HN : ∀ v, v = maxV A B k → Hid (CMx A B (k + 1) w (wr.setCell ⟨w.heap.size, k, none⟩ (.int .i64 v))) := fun v hv => Lib.hid (by
        refine ⟨?_, HP.out.o2.setFar _ _ (by show w.heap.size + 1 ≠ w.heap.size; omega), HP.out.o3.setFar _ _ (by show w.heap.size + 1 + 1 ≠ w.heap.size; omega), HP.out.bel.setCell (p := ⟨w.heap.size, k, none⟩) (Nat.le_refl _) _⟩
        rw [← mx8_put A B hv, ← arr_set _ hlt]
        exact HP.out.o1.set k _)
      by_cases h : A k < B k
      · have g : decide (A k < B k) = true := decide_eq_true h
        have HR := HN (B k) (by unfold maxV; rw [if_pos h])
        clear HN
        go_wp2_with fail
        go_roundw
        case rel => exact ⟨k + 1, by omega, by go_num, HR⟩
        case measure => simp [intOf]; omega
      · have g : decide (A k < B k) = false := decide_eq_false h
        have HR := HN (A k) (by unfold maxV; rw [if_neg h])
        clear HN
        go_wp2_with fail
        go_roundw
        case rel => exact ⟨k + 1, by omega, by go_num, HR⟩
        case measure => simp [intOf]; omega
    · have e : k = 8 := by omega
      subst e
      have o1 := HP.out.o1
      rw [mx8_whole] at o1
      have l3 := HP.out.o3.cell
      have f3 := HP.out.o3.free
      have z3 := HP.out.o3.lt
      have l4 := o1.cell
      have z4 := o1.lt
      have BEL := Lib.hid HP.out.bel
      go_wp2_with fail
      have key := And.intro (st8_own HP.out.o3 (.int .i64 ((maxV A B) 0)) (.int .i64 ((maxV A B) 1)) (.int .i64 ((maxV A B) 2)) (.int .i64 ((maxV A B) 3)) (.int .i64 ((maxV A B) 4)) (.int .i64 ((maxV A B) 5)) (.int .i64 ((maxV A B) 6)) (.int .i64 ((maxV A B) 7))) (st8_below (b := w.heap.size + 1 + 1) BEL.out (by omega) (.int .i64 ((maxV A B) 0)) (.int .i64 ((maxV A B) 1)) (.int .i64 ((maxV A B) 2)) (.int .i64 ((maxV A B) 3)) (.int .i64 ((maxV A B) 4)) (.int .i64 ((maxV A B) 5)) (.int .i64 ((maxV A B) 6)) (.int .i64 ((maxV A B) 7)))
      clear l3 f3 z3 l4 z4
      unfold st8 at key
      revert key
      generalize World.setCell (World.setCell (World.setCell (World.setCell (World.setCell (World.setCell (World.setCell (World.setCell _ _ _) _ _) _ _) _ _) _ _) _ _) _ _) _ _ = WW
      rintro ⟨of, bf⟩
      have lf := of.cell
      refine bodyPost_ret (v := vecV ((maxV A B))) (by simp [results, Try.results10, go_sem, lf]) rfl ⟨rfl, bf⟩

set_option maxRecDepth 100000 in
set_option maxHeartbeats 4000000 in
theorem vecWith_calls (A : Nat → Int) (r c : Int) (w : World) :
    Calls Try.prog 8 #[vecV A, .agg #[.int .i64 r, .int .i64 c]] w fun e w' => e = .returned (vecV (withV A r c)) ∧ Below w.heap.size w w' := by
  have O1 := Lib.hid (((Own.new w (arr8 A) 23).alloc (.cells #[.int .i64 r, .int .i64 c] 25)).alloc (.cells (arr8 fun _ => 0) 23))
  have O2 := Lib.hid ((Own.newAt (w.alloc (.cells (arr8 A) 23)) #[.int .i64 r, .int .i64 c] 25 (b := w.heap.size + 1) (by simp)).alloc (.cells (arr8 fun _ => 0) 23))
  have O3 := Lib.hid (Own.newAt ((w.alloc (.cells (arr8 A) 23)).alloc (.cells #[.int .i64 r, .int .i64 c] 25)) (arr8 fun _ => 0) 23 (b := w.heap.size + 1 + 1) (by simp))
  have BEL := Lib.hid ((((Below.refl w.heap.size w).alloc (Nat.le_refl _) (.cells (arr8 A) 23)).alloc (by simp) (.cells #[.int .i64 r, .int .i64 c] 25)).alloc (by simp; omega) (.cells (arr8 fun _ => 0) 23))
  have m := fun W => Lib.hid (replica_calls r W)
  by_cases h : r < 1 ∨ 8 < r
  · have HE := Lib.hid (with_out (A := A) (r := r) (c := c) h)
    have e := rep_no h
    clear h
    rw [e] at m
    clear e
    have l1 := O1.out.cell
    have z1 := O1.out.lt
    have l3 := O3.out.cell
    have f3 := O3.out.free
    have z3 := O3.out.lt
    have BEL2 := Lib.hid ((((Below.refl w.heap.size w).alloc (Nat.le_refl _) (.cells (arr8 A) 23)).alloc (by simp) (.cells #[.int .i64 r, .int .i64 c] 25)).alloc (by simp; omega) (.cells (arr8 A) 23))
    go_enter Try.func8, Try.ntmps8
    go_wp2_with (go_at_call 16; refine (m _).out.mono ?_; rintro e w2 ⟨rfl, rfl⟩)
    have lf := (Own.newAt ((w.alloc (.cells (arr8 A) 23)).alloc (.cells #[.int .i64 r, .int .i64 c] 25)) (arr8 A) 23 (b := w.heap.size + 1 + 1) (by simp)).cell
    refine bodyPost_ret (v := vecV A) (by simp [results, Try.results8, go_sem, lf]) rfl ⟨congrArg Ending.returned HE.out, BEL2.out⟩
  · obtain ⟨k, rfl⟩ : ∃ k : Nat, r = (k : Int) + 1 := ⟨(r - 1).toNat, by omega⟩
    have hk : k < 8 := by omega
    clear h
    have e := rep_yes hk
    rw [e] at m
    clear e
    have g3 : (k : Int) + 1 - 1 = (k : Int) := by omega
    have k0 : (0 : Int) ≤ (k : Int) := by omega
    have k1 : (k : Int) < 8 := by omega
    obtain ⟨v, hv⟩ : ∃ v : Int, v = if A k < c then c else A k := ⟨_, rfl⟩
    have HE := Lib.hid (show vecV (fun j => if j = k then v else A j) = vecV (withV A ((k : Int) + 1) c) by
      rw [hv]
      split
      · rename_i h; exact with_in hk h
      · rename_i h
        rw [← with_le (A := A) (k := k) (c := c) (by omega)]
        exact vec_congr fun j _ => by
          by_cases e : j = k
          · rw [if_pos e, e]
          · rw [if_neg e])
    have HO := Lib.hid (And.intro O1 (And.intro O2 (And.intro O3 BEL)))
    clear O1 O2 O3 BEL
    go_enter Try.func8, Try.ntmps8
    go_upto_region 2 with (go_at_call 16; refine (m _).out.mono ?_; rintro e w2 ⟨rfl, rfl⟩)
    clear m
    revert HO
    generalize World.alloc (World.alloc (World.alloc w _) _) _ = W
    intro HO
    obtain ⟨O1, O2, O3, BEL⟩ := HO.out
    clear HO
    have c1 := (O1.out.cell k).trans (arr_get A hk)
    have l2 := O2.out.cell
    have z2 := O2.out.lt
    have z1 := O1.out.lt
    by_cases h : A k < c
    all_goals
      first | have g4 : decide (A k < c) = true := decide_eq_true h | have g4 : decide (A k < c) = false := decide_eq_false h
      first | rw [if_pos h] at hv | rw [if_neg h] at hv
      refine region_still_tail 12 (by kernel_rfl) (by kernel_rfl) ?_
      simp only [List.take_succ_cons, List.take_zero, List.drop_succ_cons, List.drop_zero]
      have kw : IntKind.i64.wrap (k : Int) = (k : Int) := by rw [IntKind.wrap_i64]; omega
      repeat still_step
      refine wpStill_nil ?_
      clear c1 l2 z2 z1
      replace O1 := Lib.hid (O1.out.later (Below.refl _ _).drew)
      replace O3 := Lib.hid (O3.out.later (Below.refl _ _).drew)
      replace BEL := Lib.hid (BEL.out.trans ((Below.refl _ _).drew.mono BEL.out.size))
      clear O2 kw
      revert O1 O3 BEL
      generalize W.drew = W2
      intro O1 O3 BEL
      have c1 := (O1.out.cell k).trans (arr_get A hk)
      have f1 := O1.out.free k
      have z1 := O1.out.lt
      obtain ⟨F, hF⟩ : ∃ F : Nat → Int, F = (fun j => if j = k then v else A j) := ⟨_, rfl⟩
      have R1 := O1.out.set k (.int .i64 v)
      rw [arr_set _ hk, ← hF] at R1
      have he2 := HE.out
      rw [← hF] at he2
      have HE2 := Lib.hid he2
      have R3 := O3.out.setFar ⟨w.heap.size, k, none⟩ (.int .i64 v) (by show w.heap.size + 1 + 1 ≠ w.heap.size; omega)
      have B3 := BEL.out.setCell (p := ⟨w.heap.size, k, none⟩) (Nat.le_refl _) (.int .i64 v)
      have HX := Lib.hid (show Own _ _ _ _ ∧ Own _ _ _ _ ∧ Below _ _ _ from ⟨R1, R3, B3⟩)
      clear R1 R3 B3 HE hF he2
      rw [hv] at HX
      clear hv
      go_upto_region 3 with fail
      revert HX
      generalize World.setCell _ _ _ = W8
      intro HX
      have HR3 := Lib.hid HX.out.2.1
      have BR := Lib.hid HX.out.2.2
      clear f1 z1 c1
      have l1 := HX.out.1.cell
      have l3 := HX.out.2.1.cell
      have f3 := HX.out.2.1.free
      have z3 := HX.out.2.1.lt
      have z1 := HX.out.1.lt
      go_wp2_with fail
      have key := And.intro (st8_own HR3.out (.int .i64 (F 0)) (.int .i64 (F 1)) (.int .i64 (F 2)) (.int .i64 (F 3)) (.int .i64 (F 4)) (.int .i64 (F 5)) (.int .i64 (F 6)) (.int .i64 (F 7))) (st8_below (b := w.heap.size + 1 + 1) BR.out (by omega) (.int .i64 (F 0)) (.int .i64 (F 1)) (.int .i64 (F 2)) (.int .i64 (F 3)) (.int .i64 (F 4)) (.int .i64 (F 5)) (.int .i64 (F 6)) (.int .i64 (F 7)))
      clear l1 z1 l3 f3 z3
      unfold st8 at key
      revert key
      generalize World.setCell (World.setCell (World.setCell (World.setCell (World.setCell (World.setCell (World.setCell (World.setCell _ _ _) _ _) _ _) _ _) _ _) _ _) _ _) _ _ = WW
      rintro ⟨of, bf⟩
      have lf := of.cell
      refine bodyPost_ret (v := vecV F) (by simp [results, Try.results8, go_sem, lf]) rfl ⟨congrArg Ending.returned HE2.out, bf⟩

end Go.Proofs.Ytphomlolfadbpaa
