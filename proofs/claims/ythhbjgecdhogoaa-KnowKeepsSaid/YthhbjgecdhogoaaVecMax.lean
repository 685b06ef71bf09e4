/- Counts of replicas: the code's own Max, walked. -/
import Derived.Test.YthhbjgecdhogoaaVecI
import Derived.Test.YthhbjgecdhogoaaRefVec2
namespace Go.Proofs.Ythhbjgecdhogoaa
set_option linter.unusedVariables false
set_option linter.unusedSimpArgs false
open Go.RowKit

/-- The first counts are the greater ones, the others a's own. -/
def mx8 (A B : Nat → Int) (k : Nat) (j : Nat) : Int := if j < k then maxV A B j else A j
theorem mx8_zero (A B : Nat → Int) : arr8 A = arr8 (mx8 A B 0) := arr_congr fun j _ => by unfold mx8; rw [if_neg (by omega)]
theorem mx8_whole (A B : Nat → Int) : arr8 (mx8 A B 8) = arr8 (maxV A B) := arr_congr fun j h => by unfold mx8; rw [if_pos h]
theorem mx8_put (A B : Nat → Int) {k : Nat} {v : Int} (hv : v = maxV A B k) : arr8 (fun j => if j = k then v else mx8 A B k j) = arr8 (mx8 A B (k + 1)) := arr_congr fun j _ => by
  unfold mx8
  by_cases e : j = k
  · subst e; rw [if_pos rfl, if_pos (by omega)]; exact hv
  · rw [if_neg e]
    by_cases h : j < k
    · rw [if_pos h, if_pos (by omega)]
    · rw [if_neg h, if_neg (by omega)]
structure CMx (A B : Nat → Int) (k : Nat) (w wr : World) : Prop where
  o1 : Own wr w.heap.size (arr8 (mx8 A B k)) 23
  o2 : Own wr (w.heap.size + 1) (arr8 B) 23
  o3 : Own wr (w.heap.size + 1 + 1) (arr8 fun _ => 0) 23
  bel : Below w.heap.size w wr
def CMxRel (A B : Nat → Int) (w : World) (i : Value) (wr : World) : Prop := ∃ k : Nat, k ≤ 8 ∧ i = .int .i64 k ∧ Hid (CMx A B k w wr)

set_option maxRecDepth 100000 in
set_option maxHeartbeats 4000000 in
theorem vecMax_calls (A B : Nat → Int) (w : World) :
    Calls Try.prog 43 #[vecV A, vecV B] w fun e w' => e = .returned (vecV (maxV A B)) ∧ Below w.heap.size w w' := by
  have I0 : CMx A B 0 w (((w.alloc (.cells (arr8 A) 23)).alloc (.cells (arr8 B) 23)).alloc (.cells (arr8 fun _ => 0) 23)) :=
    ⟨by rw [← mx8_zero]; exact ((Own.new w _ _).alloc _).alloc _, (Own.newAt _ _ _ (by simp)).alloc _, Own.newAt _ _ _ (by simp), (((Below.refl _ _).alloc (Nat.le_refl _) _).alloc (by simp) _).alloc (by simp; omega) _⟩
  have HI0 := Lib.hid I0
  clear I0
  go_enter Try.func43, Try.ntmps43
  go_wp2_with fail
  go_loopw [8] (fun i wr => CMxRel A B w i wr) (fun i _ => 8 - (intOf i).toNat)
  case atStart => exact ⟨0, by omega, rfl, HI0⟩
  case round =>
    clear HI0
    obtain ⟨k, hk, rfl, HP⟩ := hrel
    by_cases hlt : k < 8
    · have ix := fun w => idx8 B hlt w
      have ca := (HP.out.o1.cell k).trans (arr_get (mx8 A B k) hlt)
      rw [show mx8 A B k k = A k by unfold mx8; rw [if_neg (by omega)]] at ca
      have fa := HP.out.o1.free k
      have z1 := HP.out.o1.lt
      have k0 : (0 : Int) ≤ (k : Int) := by omega
      have k1 : (k : Int) < 8 := by omega
      have HN : ∀ v, v = maxV A B k → Hid (CMx A B (k + 1) w (wr.setCell ⟨w.heap.size, k, none⟩ (.int .i64 v))) := fun v hv => Lib.hid (by
        refine ⟨?_, HP.out.o2.setFar _ _ (by show w.heap.size + 1 ≠ w.heap.size; omega), HP.out.o3.setFar _ _ (by show w.heap.size + 1 + 1 ≠ w.heap.size; omega), HP.out.bel.setCell (p := ⟨w.heap.size, k, none⟩) (Nat.le_refl _) _⟩
        rw [← mx8_put A B hv, ← arr_set _ hlt]
        exact HP.out.o1.set k _)
      by_cases h : A k < B k
      · have g : decide (A k < B k) = true := decide_eq_true h
        have HR := HN (B k) (by unfold maxV; rw [if_pos h])
        clear HN
        go_wp2_with fail
        go_roundw
        case rel => exact ⟨k + 1, by omega, by go_num, HR⟩
        case measure => simp [intOf]; omega
      · have g : decide (A k < B k) = false := decide_eq_false h
        have HR := HN (A k) (by unfold maxV; rw [if_neg h])
        clear HN
        go_wp2_with fail
        go_roundw
        case rel => exact ⟨k + 1, by omega, by go_num, HR⟩
        case measure => simp [intOf]; omega
    · have e : k = 8 := by omega
      subst e
      have o1 := HP.out.o1
      rw [mx8_whole] at o1
      have l3 := HP.out.o3.cell
      have f3 := HP.out.o3.free
      have z3 := HP.out.o3.lt
      have l4 := o1.cell
      have z4 := o1.lt
      have BEL := Lib.hid HP.out.bel
      go_wp2_with fail
      have key := And.intro (st8_own HP.out.o3 (.int .i64 ((maxV A B) 0)) (.int .i64 ((maxV A B) 1)) (.int .i64 ((maxV A B) 2)) (.int .i64 ((maxV A B) 3)) (.int .i64 ((maxV A B) 4)) (.int .i64 ((maxV A B) 5)) (.int .i64 ((maxV A B) 6)) (.int .i64 ((maxV A B) 7))) (st8_below (b := w.heap.size + 1 + 1) BEL.out (by omega) (.int .i64 ((maxV A B) 0)) (.int .i64 ((maxV A B) 1)) (.int .i64 ((maxV A B) 2)) (.int .i64 ((maxV A B) 3)) (.int .i64 ((maxV A B) 4)) (.int .i64 ((maxV A B) 5)) (.int .i64 ((maxV A B) 6)) (.int .i64 ((maxV A B) 7)))
      clear l3 f3 z3 l4 z4
      unfold st8 at key
      revert key
      generalize World.setCell (World.setCell (World.setCell (World.setCell (World.setCell (World.setCell (World.setCell (World.setCell _ _ _) _ _) _ _) _ _) _ _) _ _) _ _) _ _ = WW
      rintro ⟨of, bf⟩
      have lf := of.cell
      refine bodyPost_ret (v := vecV ((maxV A B))) (by simp [results, Try.results43, go_sem, lf]) rfl ⟨rfl, bf⟩

end Go.Proofs.Ythhbjgecdhogoaa
