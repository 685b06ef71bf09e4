/- Joined: VecMay, VecMax. -/
import Derived.Test.YthbjgfennclidaaGreatJ02
/- Counts of replicas: the code's own May, walked. -/
namespace Go.Proofs.YthbjgfennclidaaGreat
set_option linter.unusedVariables false
set_option linter.unusedSimpArgs false
set_option maxRecDepth 100000
open Go.RowKit
set_option maxHeartbeats 2000000 in
theorem vecMay_calls (A : Nat → Int) (w : World) :
    Calls Tryz.prog 95 #[vecV A] w fun e w' => e = .returned (.bool (mayV A)) ∧ Below w.heap.size w w' := by
  go_enter Tryz.func95, Tryz.ntmps95
  go_wp2_with fail
  go_loopw [6] (fun i wr => VAllRel (fun j => 0 ≤ A j ∧ A j ≤ 1000) (w.alloc (.cells (arr8 A) 28)) i wr) (fun i _ => 8 - (intOf i).toNat)
  case atStart => exact ⟨0, by omega, rfl, fun j hj => absurd hj (by omega), Below.refl _ _⟩
  case round =>
    obtain ⟨k, hk, rfl, HS, hb⟩ := hrel
    have BW := Lib.hid (below_new hb)
    have HB := Lib.hid hb
    clear hb
    by_cases hlt : k < 8
    · have ix := fun w => idx8 A hlt w
      have k0 : (0 : Int) ≤ (k : Int) := by omega
      have k1 : (k : Int) < 8 := by omega
      by_cases h : A k < 0
      · have E := Lib.hid (mayV_false hlt (.inl h))
        have g : decide (A k < 0) = true := decide_eq_true h
        go_wp2_with fail
        go_ret
        exact ⟨ret_bool E.out.symm, BW.out⟩
      by_cases h' : 1000 < A k
      · have E := Lib.hid (mayV_false hlt (.inr h'))
        have g : decide (A k < 0) = false := decide_eq_false h
        have g' : decide (1000 < A k) = true := decide_eq_true h'
        go_wp2_with fail
        go_ret
        exact ⟨ret_bool E.out.symm, BW.out⟩
      · have HN := Lib.hid (all_step (P := fun j => 0 ≤ A j ∧ A j ≤ 1000) HS.out (by omega))
        have g : decide (A k < 0) = false := decide_eq_false h
        have g' : decide (1000 < A k) = false := decide_eq_false h'
        go_wp2_with fail
        go_roundw
        case rel => exact ⟨k + 1, by omega, by go_num, HN.out, HB.out⟩
        case measure => simp [intOf]; omega
    · have e : k = 8 := by omega
      subst e
      have E := Lib.hid (mayV_iff.2 HS.out)
      go_wp2_with fail
      go_ret
      exact ⟨ret_bool E.out.symm, BW.out⟩
end Go.Proofs.YthbjgfennclidaaGreat
/- Counts of replicas: the code's own Max, walked. -/
namespace Go.Proofs.YthbjgfennclidaaGreat
set_option linter.unusedVariables false
set_option linter.unusedSimpArgs false
set_option maxRecDepth 100000
open Go.RowKit
def mx8 (A B : Nat → Int) (k : Nat) (j : Nat) : Int := if j < k then maxV A B j else A j
theorem mx8_zero (A B : Nat → Int) : arr8 A = arr8 (mx8 A B 0) := arr_congr fun j _ => by unfold mx8; rw [if_neg (by omega)]
theorem mx8_whole (A B : Nat → Int) : arr8 (mx8 A B 8) = arr8 (maxV A B) := arr_congr fun j h => by unfold mx8; rw [if_pos h]
theorem mx8_put (A B : Nat → Int) {k : Nat} {v : Int} (hv : v = maxV A B k) : arr8 (fun j => if j = k then v else mx8 A B k j) = arr8 (mx8 A B (k + 1)) := arr_congr fun j _ => by
  unfold mx8
  by_cases e : j = k
  · subst e; rw [if_pos rfl, if_pos (by omega)]; exact hv
  · rw [if_neg e]
    by_cases h : j < k
    · rw [if_pos h, if_pos (by omega)]
    · rw [if_neg h, if_neg (by omega)]
structure CMx (A B : Nat → Int) (k : Nat) (w wr : World) : Prop where
  o1 : Own wr w.heap.size (arr8 (mx8 A B k)) 28
  o2 : Own wr (w.heap.size + 1) (arr8 B) 28
  o3 : Own wr (w.heap.size + 1 + 1) (arr8 fun _ => 0) 28
  bel : Below w.heap.size w wr
def CMxRel (A B : Nat → Int) (w : World) (i : Value) (wr : World) : Prop := ∃ k : Nat, k ≤ 8 ∧ i = .int .i64 k ∧ Hid (CMx A B k w wr)
set_option maxRecDepth 100000 in
set_option maxHeartbeats 4000000 in
theorem vecMax_calls (A B : Nat → Int) (w : World) :
    Calls Tryz.prog 189 #[vecV A, vecV B] w fun e w' => e = .returned (vecV (maxV A B)) ∧ Below w.heap.size w w' := by
  have I0 : CMx A B 0 w (((w.alloc (.cells (arr8 A) 28)).alloc (.cells (arr8 B) 28)).alloc (.cells (arr8 fun _ => 0) 28)) :=
    ⟨by rw [← mx8_zero]; exact ((Own.new w _ _).alloc _).alloc _, (Own.newAt _ _ _ (by simp)).alloc _, Own.newAt _ _ _ (by simp), (((Below.refl _ _).alloc (Nat.le_refl _) _).alloc (by simp) _).alloc (by simp; omega) _⟩
  have HI0 := Lib.hid I0
  clear I0
  go_enter Tryz.func189, Tryz.ntmps189
  go_wp2_with fail
  go_loopw [8] (fun i wr => CMxRel A B w i wr) (fun i _ => 8 - (intOf i).toNat)
  case atStart => exact ⟨0, by omega, rfl, HI0⟩
  case round =>
    clear HI0
    obtain ⟨k, hk, rfl, HP⟩ := hrel
    by_cases hlt : k < 8
    · have ix := fun w => idx8 B hlt w
      have ca := (HP.out.o1.cell k).trans (arr_get (mx8 A B k) hlt)
      rw [show mx8 A B k k = A k by unfold mx8; rw [if_neg (by omega)]] at ca
      have fa := HP.out.o1.free k
      have z1 := HP.out.o1.lt
      have k0 : (0 : Int) ≤ (k : Int) := by omega
      have k1 : (k : Int) < 8 := by omega
      have HN : ∀ v, v = maxV A B k → Hid (CMx A B (k + 1) w (wr.setCell ⟨w.heap.size, k, none⟩ (.int .i64 v))) := fun v hv => Lib.hid (by
        refine ⟨?_, HP.out.o2.setFar _ _ (by show w.heap.size + 1 ≠ w.heap.size; omega), HP.out.o3.setFar _ _ (by show w.heap.size + 1 + 1 ≠ w.heap.size; omega), HP.out.bel.setCell (p := ⟨w.heap.size, k, none⟩) (Nat.le_refl _) _⟩
        rw [← mx8_put A B hv, ← arr_set _ hlt]
        exact HP.out.o1.set k _)
      by_cases h : A k < B k
      · have g : decide (A k < B k) = true := decide_eq_true h
        have HR := HN (B k) (by unfold maxV; rw [if_pos h])
        clear HN
        go_wp2_with fail
        go_roundw
        case rel => first | exact ⟨k + 1, by omega, by go_num, HR⟩ | exact ⟨k + 1, by omega, by go_num, by rw [show max (A k) (B k) = B k by omega]; exact HR⟩
        case measure => simp [intOf]; omega
      · have g : decide (A k < B k) = false := decide_eq_false h
        have HR := HN (A k) (by unfold maxV; rw [if_neg h])
        clear HN
        go_wp2_with fail
        go_roundw
        case rel => first | exact ⟨k + 1, by omega, by go_num, HR⟩ | exact ⟨k + 1, by omega, by go_num, by rw [show max (A k) (B k) = A k by omega]; exact HR⟩
        case measure => simp [intOf]; omega
    · have e : k = 8 := by omega
      subst e
      have o1 := HP.out.o1
      rw [mx8_whole] at o1
      have l3 := HP.out.o3.cell
      have f3 := HP.out.o3.free
      have z3 := HP.out.o3.lt
      have l4 := o1.cell
      have z4 := o1.lt
      have BEL := Lib.hid HP.out.bel
      go_wp2_with fail
      have key := And.intro (st8_own HP.out.o3 (.int .i64 ((maxV A B) 0)) (.int .i64 ((maxV A B) 1)) (.int .i64 ((maxV A B) 2)) (.int .i64 ((maxV A B) 3)) (.int .i64 ((maxV A B) 4)) (.int .i64 ((maxV A B) 5)) (.int .i64 ((maxV A B) 6)) (.int .i64 ((maxV A B) 7))) (st8_below (b := w.heap.size + 1 + 1) BEL.out (by omega) (.int .i64 ((maxV A B) 0)) (.int .i64 ((maxV A B) 1)) (.int .i64 ((maxV A B) 2)) (.int .i64 ((maxV A B) 3)) (.int .i64 ((maxV A B) 4)) (.int .i64 ((maxV A B) 5)) (.int .i64 ((maxV A B) 6)) (.int .i64 ((maxV A B) 7)))
      clear l3 f3 z3 l4 z4
      unfold st8 at key
      revert key
      generalize World.setCell (World.setCell (World.setCell (World.setCell (World.setCell (World.setCell (World.setCell (World.setCell _ _ _) _ _) _ _) _ _) _ _) _ _) _ _) _ _ = WW
      rintro ⟨of, bf⟩
      have lf := of.cell
      refine bodyPost_ret (v := vecV ((maxV A B))) (by simp [results, Tryz.results189, go_sem, lf]) rfl ⟨rfl, bf⟩
end Go.Proofs.YthbjgfennclidaaGreat
