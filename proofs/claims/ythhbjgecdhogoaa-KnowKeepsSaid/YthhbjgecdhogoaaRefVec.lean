/- Counts of replicas: the document's answers, walked. -/
import Derived.Test.YthhbjgecdhogoaaVecM
import Derived.Deep.CutBlock
import Derived.Deep.DeepCutAuto
namespace Go.Proofs.Ythhbjgecdhogoaa
set_option linter.unusedVariables false
set_option linter.unusedSimpArgs false
open Go.RowKit

theorem cnt_out {A : Nat → Int} {r : Int} (h : r < 1 ∨ 8 < r) : cntV A r = 0 := by unfold cntV; rw [if_neg (by omega)]
theorem cnt_in {A : Nat → Int} {k : Nat} (h : k < 8) : cntV A ((k : Int) + 1) = A k := by
  unfold cntV
  rw [if_pos (by omega)]
  congr 1
  omega

set_option maxHeartbeats 1000000 in
theorem count_calls (A : Nat → Int) (r : Int) (w : World) :
    Calls Try.prog 53 #[vecV A, .int .i64 r] w fun e w' => e = .returned (.int .i64 (cntV A r)) ∧ Below w.heap.size w w' := by
  have HB := Lib.hid ((Below.refl w.heap.size w).alloc (Nat.le_refl _) (.cells (arr8 A) 23))
  by_cases h1 : r < 1
  · have E := Lib.hid (cnt_out (A := A) (.inl h1))
    have g1 : decide (r < 1) = true := decide_eq_true h1
    go_enter Try.func53, Try.ntmps53
    go_wp2_with fail
    go_ret
    exact ⟨by rw [E.out]; rfl, HB.out⟩
  by_cases h2 : 8 < r
  · have E := Lib.hid (cnt_out (A := A) (.inr h2))
    have g1 : decide (r < 1) = false := decide_eq_false h1
    have g2 : decide (8 < r) = true := decide_eq_true h2
    go_enter Try.func53, Try.ntmps53
    go_wp2_with fail
    go_ret
    exact ⟨by rw [E.out]; rfl, HB.out⟩
  · obtain ⟨k, rfl⟩ : ∃ k : Nat, r = (k : Int) + 1 := ⟨(r - 1).toNat, by omega⟩
    have hk : k < 8 := by omega
    have E := Lib.hid (cnt_in (A := A) hk)
    have g1 : decide ((k : Int) + 1 < 1) = false := decide_eq_false h1
    have g2 : decide (8 < (k : Int) + 1) = false := decide_eq_false h2
    have g3 : (k : Int) + 1 - 1 = (k : Int) := by omega
    have c := ((Own.new w (arr8 A) 23).cell k).trans (arr_get A hk)
    have k0 : (0 : Int) ≤ (k : Int) := by omega
    have k1 : (k : Int) < 8 := by omega
    clear h1 h2
    go_enter Try.func53, Try.ntmps53
    go_wp2_with fail
    go_ret
    exact ⟨by rw [E.out]; rfl, HB.out⟩

set_option maxHeartbeats 1000000 in
theorem hasVec_calls (A : Nat → Int) (r c : Int) (w : World) :
    Calls Try.prog 36 #[vecV A, .agg #[.int .i64 r, .int .i64 c]] w fun e w' => e = .returned (.bool (hasV A r c)) ∧ Below w.heap.size w w' := by
  have G1 := Lib.hid ((Has.new w (arr8 A) 23).alloc (.cells #[.int .i64 r, .int .i64 c] 28))
  have G2 := Lib.hid ((Own.newAt (w.alloc (.cells (arr8 A) 23)) #[.int .i64 r, .int .i64 c] 28 (b := w.heap.size + 1) (by simp)).has)
  have LA := fun dd os o => G1.out.regrown dd os o
  have LB := fun dd os o => G2.out.regrown dd os o
  have m := fun dd os => Lib.hid (Calls.regrown_of (count_calls A r (Sort.grow (redrawn ((w.alloc (.cells (arr8 A) 23)).alloc (.cells #[.int .i64 r, .int .i64 c] 28)) dd) os)))
  unfold hasV
  generalize cntV A r = n at *
  cases hg : decide (1 ≤ c)
  all_goals
    go_enter Try.func36, Try.ntmps36
    go_wp2_with fail
    refine wp_region_quiet_below (by kernel_rfl) (by kernel_rfl) ?_
    repeat (first | go_big_quiet_step ((with_reducible exact (m _ _).out)) | quiet_step (with_reducible exact (m _ _).out))
    refine wpQuiet_nil ?_
    intro w7 hw'
    have hb' := Lib.hid (regrown_below hw')
    clear hw'
    go_wp2_with fail
    go_ret
    exact ⟨ret_bool (by simp), below_new (below_new hb'.out)⟩

def VAllRel (P : Nat → Prop) (w0 : World) (i : Value) (wr : World) : Prop := ∃ k : Nat, k ≤ 8 ∧ i = .int .i64 k ∧ Hid (∀ j, j < k → P j) ∧ Below w0.heap.size w0 wr
theorem all_step {P : Nat → Prop} {k : Nat} (h : ∀ j, j < k → P j) (hk : P k) : ∀ j, j < k + 1 → P j := by
  intro j hj
  by_cases e : j = k
  · rw [e]; exact hk
  · exact h j (by omega)

set_option maxHeartbeats 2000000 in
theorem mayVec_calls (A : Nat → Int) (w : World) :
    Calls Try.prog 41 #[vecV A] w fun e w' => e = .returned (.bool (mayV A)) ∧ Below w.heap.size w w' := by
  go_enter Try.func41, Try.ntmps41
  go_wp2_with fail
  go_loopw [3] (fun i wr => VAllRel (fun j => 0 ≤ A j ∧ A j ≤ 1000) (w.alloc (.cells (arr8 A) 23)) i wr) (fun i _ => 8 - (intOf i).toNat)
  case atStart => exact ⟨0, by omega, rfl, fun j hj => absurd hj (by omega), Below.refl _ _⟩
  case round =>
    obtain ⟨k, hk, rfl, HS, hb⟩ := hrel
    have BW := Lib.hid (below_new hb)
    have G1 := Lib.hid ((Has.new w (arr8 A) 23).below hb (by simp))
    have HB := Lib.hid hb
    clear hb
    by_cases hlt : k < 8
    · have c := (G1.out.cell k).trans (arr_get A hlt)
      have k0 : (0 : Int) ≤ (k : Int) := by omega
      have k1 : (k : Int) < 8 := by omega
      by_cases h : A k < 0
      · have E := Lib.hid (mayV_false hlt (.inl h))
        have g : decide (A k < 0) = true := decide_eq_true h
        go_wp2_with fail
        go_ret
        exact ⟨ret_bool E.out.symm, BW.out⟩
      by_cases h' : 1000 < A k
      · have E := Lib.hid (mayV_false hlt (.inr h'))
        have g : decide (A k < 0) = false := decide_eq_false h
        have g' : decide (1000 < A k) = true := decide_eq_true h'
        go_wp2_with fail
        go_ret
        exact ⟨ret_bool E.out.symm, BW.out⟩
      · have HN := Lib.hid (all_step (P := fun j => 0 ≤ A j ∧ A j ≤ 1000) HS.out (by omega))
        have g : decide (A k < 0) = false := decide_eq_false h
        have g' : decide (1000 < A k) = false := decide_eq_false h'
        go_wp2_with fail
        go_roundw
        case rel => exact ⟨k + 1, by omega, by go_num, HN.out, HB.out⟩
        case measure => simp [intOf]; omega
    · have e : k = 8 := by omega
      subst e
      have E := Lib.hid (mayV_iff.2 HS.out)
      go_wp2_with fail
      go_ret
      exact ⟨ret_bool E.out.symm, BW.out⟩

def upTo (k : Nat) (M : Nat → Int) (j : Nat) : Int := if j < k then M j else 0
theorem upTo_step (M : Nat → Int) (k : Nat) : (fun j => if j = k then M k else upTo k M j) = upTo (k + 1) M := by
  funext j; unfold upTo; split
  · rename_i h; rw [h, if_pos (by omega)]
  · split
    · rw [if_pos (by omega)]
    · rw [if_neg (by omega)]
structure MSt (A B M : Nat → Int) (k : Nat) (w wr : World) : Prop where
  o1 : Own wr w.heap.size (arr8 A) 23
  o2 : Own wr (w.heap.size + 1) (arr8 B) 23
  o3 : Own wr (w.heap.size + 1 + 1) (arr8 fun _ => 0) 23
  o4 : Own wr (w.heap.size + 1 + 1 + 1) (arr8 (upTo k M)) 23
  bel : Below w.heap.size w wr
theorem MSt.later {A B M : Nat → Int} {k : Nat} {w wr w' : World} (h : MSt A B M k w wr) (hb : Below wr.heap.size wr w') : MSt A B M k w w' :=
  ⟨h.o1.later hb, h.o2.later hb, h.o3.later hb, h.o4.later hb, h.bel.trans (hb.mono h.bel.size)⟩
theorem MSt.put {A B M : Nat → Int} {k : Nat} {w wr : World} (h : MSt A B M k w wr) (hk : k < 8) (v : Int) :
    Own (wr.setCell ⟨w.heap.size + 1 + 1 + 1, k, none⟩ (.int .i64 v)) (w.heap.size + 1 + 1 + 1) (arr8 (fun j => if j = k then v else upTo k M j)) 23 ∧ ∀ F, Own wr (w.heap.size + 1 + 1 + 1) (arr8 F) 23 → Own (wr.setCell ⟨w.heap.size + 1 + 1 + 1, k, none⟩ (.int .i64 v)) (w.heap.size + 1 + 1 + 1) (arr8 (fun j => if j = k then v else F j)) 23 := by
  refine ⟨?_, fun F hF => ?_⟩
  · rw [← arr_set _ hk]; exact h.o4.set k _
  · rw [← arr_set _ hk]; exact hF.set k _
/-- One or two stores at k, and what else stands. -/
theorem MSt.step {A B M : Nat → Int} {k : Nat} {w wr w' : World} (h : MSt A B M k w wr) (h1 : Own w' w.heap.size (arr8 A) 23) (h2 : Own w' (w.heap.size + 1) (arr8 B) 23) (h3 : Own w' (w.heap.size + 1 + 1) (arr8 fun _ => 0) 23)
    (h4 : Own w' (w.heap.size + 1 + 1 + 1) (arr8 (fun j => if j = k then M k else upTo k M j)) 23) (hb : Below w.heap.size w w') : MSt A B M (k + 1) w w' :=
  ⟨h1, h2, h3, by rw [← upTo_step]; exact h4, hb⟩
def MxRel (A B M : Nat → Int) (w : World) (i : Value) (wr : World) : Prop := ∃ k : Nat, k ≤ 8 ∧ i = .int .i64 k ∧ Hid (MSt A B M k w wr)

end Go.Proofs.Ythhbjgecdhogoaa
