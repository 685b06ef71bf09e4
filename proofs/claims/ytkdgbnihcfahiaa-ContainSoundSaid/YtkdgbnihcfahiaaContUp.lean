/- The document's example of layer 5: the walk. -/
import Derived.Test.YtkdgbnihcfahiaaContIn
import Derived.Test.YtkdgbnihcfahiaaInM
namespace Go.Proofs.Ytkdgbnihcfahiaa
open Go.RowKit

abbrev less3 : Pr := .node 5 ⟨#[]⟩ 3 0 0 []
abbrev less5 : Pr := .node 5 ⟨#[]⟩ 5 0 0 []
abbrev more1 : Pr := .node 6 ⟨#[]⟩ 1 0 0 []
theorem up_in1 : Pr.inB less3 less5 = true := by
  unfold Pr.inB
  rw [show less3.mayB = true by decide +kernel, show less5.mayB = true by decide +kernel, Pr.seenB_eq]
  simp [Pr.restB, Pr.op, Pr.n]
theorem up_in2 : Pr.inB less3 more1 = false := by
  unfold Pr.inB
  rw [Pr.seenB_eq]
  simp [Pr.restB, Pr.listsB, Pr.same, Pr.op, Pr.n, Pr.kids]

set_option maxHeartbeats 2000000 in
theorem up5_calls (w : World) : Calls Try.prog 6 #[] w fun e w' => e = .returned (.bool true) ∧ Below w.heap.size w w' := by
  have O := Lib.hid (Own.new w #[.int .i64 5, .string ⟨#[]⟩, .int .i64 3, .complex .f64 0 0, .slice none 0 0] 31)
  have C1 := fun w => Lib.hid (contIn_calls less3 less5 (.slice none 0 0) (.slice none 0 0) w (lies_leaf 5 ⟨#[]⟩ 3 0 0 (by decide)) (lies_leaf 5 ⟨#[]⟩ 5 0 0 (by decide)) (by decide) (by decide))
  have C2 := fun w => Lib.hid (contIn_calls less3 more1 (.slice none 0 0) (.slice none 0 0) w (lies_leaf 5 ⟨#[]⟩ 3 0 0 (by decide)) (lies_leaf 6 ⟨#[]⟩ 1 0 0 (by decide)) (by decide) (by decide))
  rw [up_in1] at C1
  rw [up_in2] at C2
  go_enter Try.func6, Try.ntmps6
  go_wp2_with fail
  refine (C1 _).out.mono ?_; rintro e w1 ⟨rfl, hb1⟩
  have O1 := Lib.hid (O.out.later hb1)
  have l1 := O1.out.cell
  have z1 := O1.out.lt
  go_wp2_with fail
  refine (C2 _).out.mono ?_; rintro e w2 ⟨rfl, hb2⟩
  go_wp2_with fail
  go_ret
  have b1 := below_new hb1
  exact ⟨rfl, b1.trans (hb2.mono b1.size)⟩

end Go.Proofs.Ytkdgbnihcfahiaa
