/- Counts of replicas: the code's own Has, walked. -/
import Derived.Test.YthhbjgecdhogoaaVecRep
namespace Go.Proofs.Ythhbjgecdhogoaa
set_option linter.unusedVariables false
set_option linter.unusedSimpArgs false
open Go.RowKit

set_option maxRecDepth 100000 in
set_option maxHeartbeats 2000000 in
theorem vecHas_calls (A : Nat → Int) (r c : Int) (w : World) :
    Calls Try.prog 32 #[vecV A, .agg #[.int .i64 r, .int .i64 c]] w fun e w' => e = .returned (.bool (hasV A r c)) ∧ Below w.heap.size w w' := by
  have G1 := Lib.hid ((Has.new w (arr8 A) 23).alloc (.cells #[.int .i64 r, .int .i64 c] 28))
  have G2 := Lib.hid ((Own.newAt (w.alloc (.cells (arr8 A) 23)) #[.int .i64 r, .int .i64 c] 28 (b := w.heap.size + 1) (by simp)).has)
  have LA := fun dd os o => G1.out.regrown dd os o
  have LB := fun dd os o => G2.out.regrown dd os o
  have m := fun dd os => Lib.hid (Calls.regrown_of (replica_quiet r (Sort.grow (redrawn ((w.alloc (.cells (arr8 A) 23)).alloc (.cells #[.int .i64 r, .int .i64 c] 28)) dd) os)))
  by_cases h : r < 1 ∨ 8 < r
  · have E := Lib.hid (has_out (A := A) (c := c) h)
    have e := rep_no h
    clear h
    rw [e] at m
    clear e
    cases hg : decide (1 ≤ c)
    all_goals
      go_enter Try.func32, Try.ntmps32
      go_wp2_with fail
      refine wp_region_quiet_below (by kernel_rfl) (by kernel_rfl) ?_
      repeat (first | go_big_quiet_step ((with_reducible exact (m _ _).out)) | quiet_step (with_reducible exact (m _ _).out))
      refine wpQuiet_nil ?_
      intro w7 hw'
      have hb' := Lib.hid (regrown_below hw')
      clear hw'
      go_wp2_with fail
      go_ret
      exact ⟨ret_bool E.out.symm, below_new (below_new hb'.out)⟩
  · obtain ⟨k, rfl⟩ : ∃ k : Nat, r = (k : Int) + 1 := ⟨(r - 1).toNat, by omega⟩
    have hk : k < 8 := by omega
    clear h
    have e := rep_yes hk
    rw [e] at m
    clear e
    have E := Lib.hid (show hasV A ((k : Int) + 1) c = (decide (1 ≤ c) && decide (c ≤ A k)) by unfold hasV; rw [cnt_in hk])
    have g3 : (k : Int) + 1 - 1 = (k : Int) := by omega
    have LC := fun dd os => (G1.out.regrown dd os k).trans (arr_get A hk)
    clear LA
    have k0 : (0 : Int) ≤ (k : Int) := by omega
    have k1 : (k : Int) < 8 := by omega
    generalize hasV A ((k : Int) + 1) c = R at *
    cases hg : decide (1 ≤ c)
    all_goals
      go_enter Try.func32, Try.ntmps32
      go_wp2_with fail
      refine wp_region_quiet_below (by kernel_rfl) (by kernel_rfl) ?_
      repeat (first | go_big_quiet_step ((with_reducible exact (m _ _).out)) | quiet_step (with_reducible exact (m _ _).out))
      refine wpQuiet_nil ?_
      intro w7 hw'
      have hb' := Lib.hid (regrown_below hw')
      clear hw'
      go_wp2_with fail
      go_ret
      exact ⟨ret_bool (by rw [E.out, hg]; simp), below_new (below_new hb'.out)⟩

end Go.Proofs.Ythhbjgecdhogoaa
