/- bytes.Clone. Walked. -/
import Derived.Test.YteofkbidahefeaaByA
import Derived.Lib.SliceRun
namespace Go.Proofs.Yteofkbidahefeaa
set_option linter.unusedVariables false
set_option linter.unusedSimpArgs false
set_option maxRecDepth 100000
open Go.RowKit

set_option maxHeartbeats 1000000 in
theorem clone_calls (l : List Nat) (v : Value) (w : World) (hB : ByW w l v) (hn : l.length ≤ 140737488355328) :
    Calls Try.prog 21 #[v] w fun e w' => ∃ u, e = .returned u ∧ OwnB w' w.heap.size l u ∧ Below w.heap.size w w' := by
  have P := fun ty => run_append_by ty (w := w.alloc (.cells #[] 5)) (base := w.heap.size) (own_new [] (Nat.le_refl _) (by decide)) (hB.later ((Below.refl _ _).alloc (Nat.le_refl _) _)) (by simpa using hn) (by simp)
  have HP := Lib.hid P
  have HB := Lib.hid hB
  clear P
  have q : ∀ (w : World) (a : Option Addr) (n c n' c' : Nat), (binOp .eql 26 (.slice a n c) (.slice none n' c')).run Try.prog w = .ok (.bool a.isNone) w := fun w a n c n' c' => Lib.run_eql_slice_nil w _ _ a n c n' c' Try.underlying26
  obtain ⟨oa, cap, rfl, _, _⟩ := hB.val
  clear hB
  cases oa with
  | none =>
    have h0 : l.length = 0 := by
      obtain ⟨oa', cap', b, o, e, h⟩ := HB.out
      rcases Nat.eq_zero_or_pos l.length with h0 | h0
      · exact h0
      · have := (h.at0 h0).1
        rw [this] at e; cases e
    obtain rfl : l = [] := List.length_eq_zero_iff.1 h0
    go_enter Try.func21, Try.ntmps21
    go_wp2
    go_ret
    exact ⟨_, rfl, OwnB.nil _ _, Below.refl _ _⟩
  | some a =>
    go_enter Try.func21, Try.ntmps21
    go_wp2_with (at_builtin; obtain ⟨v', w', hrun, hown, hgr⟩ := HP.out _; refine Lib.wpList_append_run _ rfl _ _ _ _ rfl _ _ rfl rfl _ _ hrun ?_)
    go_ret
    exact ⟨_, rfl, by simpa using hown, below_pushB (own_new (w := w) [] (Nat.le_refl _) (by decide)) ((Below.refl _ _).alloc (Nat.le_refl _) _) (Nat.le_refl _) hgr (by simp)⟩

end Go.Proofs.Yteofkbidahefeaa
