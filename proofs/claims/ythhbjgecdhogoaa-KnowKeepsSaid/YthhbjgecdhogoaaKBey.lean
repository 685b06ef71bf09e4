/- Counts above others: the code's own, walked. -/
import Derived.Test.YthhbjgecdhogoaaVecI
import Derived.Test.YthhbjgecdhogoaaRefVec2
namespace Go.Proofs.Ythhbjgecdhogoaa
set_option linter.unusedVariables false
set_option linter.unusedSimpArgs false
open Go.RowKit

def bzV (V A : Nat → Int) (j : Nat) : Int := if V j ≤ A j then 0 else V j
def bz8 (V A : Nat → Int) (k : Nat) (j : Nat) : Int := if j < k then bzV V A j else V j
theorem bz8_zero (V A : Nat → Int) : arr8 V = arr8 (bz8 V A 0) := arr_congr fun j _ => by unfold bz8; rw [if_neg (by omega)]
theorem bz8_whole (V A : Nat → Int) : arr8 (bz8 V A 8) = arr8 (bzV V A) := arr_congr fun j h => by unfold bz8; rw [if_pos h]
theorem bz8_put (V A : Nat → Int) {k : Nat} {v : Int} (hv : v = bzV V A k) : arr8 (fun j => if j = k then v else bz8 V A k j) = arr8 (bz8 V A (k + 1)) := arr_congr fun j _ => by
  unfold bz8
  by_cases e : j = k
  · subst e; rw [if_pos rfl, if_pos (by omega)]; exact hv
  · rw [if_neg e]
    by_cases h : j < k
    · rw [if_pos h, if_pos (by omega)]
    · rw [if_neg h, if_neg (by omega)]
theorem bz8_stay (V A : Nat → Int) {k : Nat} (hv : V k = bzV V A k) : arr8 (bz8 V A k) = arr8 (bz8 V A (k + 1)) := arr_congr fun j _ => by
  unfold bz8
  by_cases e : j = k
  · subst e; rw [if_neg (by omega), if_pos (by omega)]; exact hv
  · by_cases h : j < k
    · rw [if_pos h, if_pos (by omega)]
    · rw [if_neg h, if_neg (by omega)]
structure BZ (V A : Nat → Int) (k : Nat) (w wr : World) : Prop where
  o1 : Own wr w.heap.size (arr8 (bz8 V A k)) 23
  o3 : Own wr (w.heap.size + 1 + 1) (arr8 fun _ => 0) 23
  bel : Below w.heap.size w wr
def BZRel (V A : Nat → Int) (w : World) (i : Value) (wr : World) : Prop := ∃ k : Nat, k ≤ 8 ∧ i = .int .i64 k ∧ Hid (BZ V A k w wr)

set_option maxRecDepth 100000 in
set_option maxHeartbeats 4000000 in
theorem codeBeyond_calls (V A : Nat → Int) (w : World) :
    Calls Try.prog 26 #[vecV V, vecV A] w fun e w' => e = .returned (vecV (bzV V A)) ∧ Below w.heap.size w w' := by
  have I0 : BZ V A 0 w (((w.alloc (.cells (arr8 V) 23)).alloc (.cells (arr8 A) 23)).alloc (.cells (arr8 fun _ => 0) 23)) :=
    ⟨by rw [← bz8_zero]; exact ((Own.new w _ _).alloc _).alloc _, Own.newAt _ _ _ (by simp), (((Below.refl _ _).alloc (Nat.le_refl _) _).alloc (by simp) _).alloc (by simp; omega) _⟩
  have HI0 := Lib.hid I0
  clear I0
  go_enter Try.func26, Try.ntmps26
  go_wp2_with fail
  go_loopw [8] (fun i wr => BZRel V A w i wr) (fun i _ => 8 - (intOf i).toNat)
  case atStart => exact ⟨0, by omega, rfl, HI0⟩
  case round =>
    clear HI0
    obtain ⟨k, hk, rfl, HP⟩ := hrel
    by_cases hlt : k < 8
    · have ix := fun w => idx8 A hlt w
      have ca := (HP.out.o1.cell k).trans (arr_get (bz8 V A k) hlt)
      rw [show bz8 V A k k = V k by unfold bz8; rw [if_neg (by omega)]] at ca
      have fa := HP.out.o1.free k
      have z1 := HP.out.o1.lt
      have k0 : (0 : Int) ≤ (k : Int) := by omega
      have k1 : (k : Int) < 8 := by omega
      by_cases h : V k ≤ A k
      · have g : decide (V k ≤ A k) = true := decide_eq_true h
        have HR : Hid (BZ V A (k + 1) w (wr.setCell ⟨w.heap.size, k, none⟩ (.int .i64 0))) := Lib.hid (by
          refine ⟨?_, HP.out.o3.setFar _ _ (by show w.heap.size + 1 + 1 ≠ w.heap.size; omega), HP.out.bel.setCell (p := ⟨w.heap.size, k, none⟩) (Nat.le_refl _) _⟩
          rw [← bz8_put V A (v := 0) (by unfold bzV; rw [if_pos h]), ← arr_set _ hlt]
          exact HP.out.o1.set k _)
        go_wp2_with fail
        go_roundw
        case rel => exact ⟨k + 1, by omega, by go_num, HR⟩
        case measure => simp [intOf]; omega
      · have g : decide (V k ≤ A k) = false := decide_eq_false h
        have HR : Hid (BZ V A (k + 1) w wr) := Lib.hid ⟨by rw [← bz8_stay V A (by unfold bzV; rw [if_neg h])]; exact HP.out.o1, HP.out.o3, HP.out.bel⟩
        go_wp2_with fail
        go_roundw
        case rel => exact ⟨k + 1, by omega, by go_num, HR⟩
        case measure => simp [intOf]; omega
    · have e : k = 8 := by omega
      subst e
      have o1 := HP.out.o1
      rw [bz8_whole] at o1
      have l3 := HP.out.o3.cell
      have f3 := HP.out.o3.free
      have z3 := HP.out.o3.lt
      have l4 := o1.cell
      have z4 := o1.lt
      have BEL := Lib.hid HP.out.bel
      go_wp2_with fail
      have key := And.intro (st8_own HP.out.o3 (.int .i64 ((bzV V A) 0)) (.int .i64 ((bzV V A) 1)) (.int .i64 ((bzV V A) 2)) (.int .i64 ((bzV V A) 3)) (.int .i64 ((bzV V A) 4)) (.int .i64 ((bzV V A) 5)) (.int .i64 ((bzV V A) 6)) (.int .i64 ((bzV V A) 7))) (st8_below (b := w.heap.size + 1 + 1) BEL.out (by omega) (.int .i64 ((bzV V A) 0)) (.int .i64 ((bzV V A) 1)) (.int .i64 ((bzV V A) 2)) (.int .i64 ((bzV V A) 3)) (.int .i64 ((bzV V A) 4)) (.int .i64 ((bzV V A) 5)) (.int .i64 ((bzV V A) 6)) (.int .i64 ((bzV V A) 7)))
      clear l3 f3 z3 l4 z4
      unfold st8 at key
      revert key
      generalize World.setCell (World.setCell (World.setCell (World.setCell (World.setCell (World.setCell (World.setCell (World.setCell _ _ _) _ _) _ _) _ _) _ _) _ _) _ _) _ _ = WW
      rintro ⟨of, bf⟩
      have lf := of.cell
      refine bodyPost_ret (v := vecV ((bzV V A))) (by simp [results, Try.results26, go_sem, lf]) rfl ⟨rfl, bf⟩

end Go.Proofs.Ythhbjgecdhogoaa
