/- The laws' own helper of errors: an error's number. Walked. -/
import Derived.Test.YteofkbidahefeaaKit
namespace Go.Proofs.Yteofkbidahefeaa
set_option linter.unusedVariables false
set_option linter.unusedSimpArgs false
set_option maxRecDepth 100000
open Go.RowKit

/-- An error of that number; none of 0. -/
def errV (n : Nat) : Value := if n = 0 then .nilIface else .iface 44 (.int .i64 n)
theorem run_eq_code (n k : Int) (w : World) : (binOp .eql 36 (.iface 44 (.int .i64 n)) (.iface 44 (.int .i64 k))).run Try.prog w = .ok (.bool (n == k)) w := by
  have hc : (Try.prog.info? 44).map (·.comparable) = some true := by kernel_rfl
  cases hq : Try.prog.info? 44 with
  | none => rw [hq] at hc; cases hc
  | some i =>
    have h1 : i.comparable = true := by rw [hq] at hc; simpa using hc
    have e : (Op.equalIn 9999 44 (.int .i64 n) (.int .i64 k)).run Try.prog w = .ok (n == k) w := by
      unfold Op.equalIn
      simp [run_underlying Try.underlying44]
    have e2 : (Op.equalIn 10000 36 (.iface 44 (.int .i64 n)) (.iface 44 (.int .i64 k))).run Try.prog w = .ok (n == k) w := by
      rw [show (10000 : Nat) = 9999 + 1 from rfl]
      unfold Op.equalIn
      simp [run_underlying Try.underlying36, typeInfo, hq, h1, e]
    simp [binOp, Op.equal, Op.maxDepth, e2]
theorem run_ne_same (n : Int) (w : World) : (binOp .neq 36 (.iface 44 (.int .i64 n)) (.iface 44 (.int .i64 n))).run Try.prog w = .ok (.bool false) w := by
  have hc : (Try.prog.info? 44).map (·.comparable) = some true := by kernel_rfl
  cases hq : Try.prog.info? 44 with
  | none => rw [hq] at hc; cases hc
  | some i =>
    have h1 : i.comparable = true := by rw [hq] at hc; simpa using hc
    have e : (Op.equalIn 9999 44 (.int .i64 n) (.int .i64 n)).run Try.prog w = .ok true w := by
      unfold Op.equalIn
      simp [run_underlying Try.underlying44]
    have e2 : (Op.equalIn 10000 36 (.iface 44 (.int .i64 n)) (.iface 44 (.int .i64 n))).run Try.prog w = .ok true w := by
      rw [show (10000 : Nat) = 9999 + 1 from rfl]
      unfold Op.equalIn
      simp [run_underlying Try.underlying36, typeInfo, hq, h1, e]
    simp [binOp, Op.equal, Op.maxDepth, e2]
attribute [local go_sem ↓] run_eq_code
def CodeRel (n : Nat) (w0 : World) (i : Value) (wr : World) : Prop := ∃ k : Nat, 1 ≤ k ∧ k ≤ n ∧ i = .int .i64 k ∧ Hid (w0 = wr)

set_option maxRecDepth 100000 in
set_option maxHeartbeats 1000000 in
theorem code_calls (n : Nat) (hn : n ≤ 10) (w : World) :
    Calls Try.prog 10 #[errV n] w fun e w' => e = .returned (.int .i64 n) ∧ w = w' := by
  by_cases h0 : n = 0
  · subst h0
    rw [show errV 0 = .nilIface from rfl]
    go_enter Try.func10, Try.ntmps10
    go_wp2_with fail
    go_ret
    exact ⟨rfl, rfl⟩
  · rw [show errV n = .iface 44 (.int .i64 n) from if_neg h0]
    go_enter Try.func10, Try.ntmps10
    go_wp2_with fail
    go_loopw [3] (fun i wr => CodeRel n w i wr) (fun i _ => 11 - (intOf i).toNat)
    case atStart => exact ⟨1, Nat.le_refl _, by omega, rfl, rfl⟩
    case round =>
      obtain ⟨k, hk1, hk, rfl, hw⟩ := hrel
      have ew := hw.out
      subst ew
      clear hw
      have g1 : (k : Int) ≤ 10 := by omega
      by_cases e : n = k
      · subst e
        go_wp2_with fail
        go_ret
        exact ⟨rfl, rfl⟩
      · have g2 : ((n : Int) == (k : Int)) = false := by rw [beq_eq_false_iff_ne]; omega
        go_wp2_with fail
        go_roundw
        case rel => exact ⟨k + 1, by omega, by omega, by go_num, rfl⟩
        case measure => simp [intOf]; omega

end Go.Proofs.Yteofkbidahefeaa
