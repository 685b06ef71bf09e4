/- The document's example of layer 4: the walk. -/
import Derived.Test.YtgfepbcolcmdgaaPlain
import Derived.Test.YtgfepbcolcmdgaaHasC
import Derived.Test.YtgfepbcolcmdgaaNodes
namespace Go.Proofs.Ytgfepbcolcmdgaa
open Go.RowKit

abbrev upPr : Pr := .node 9 ⟨#[]⟩ 0 0 0 [.node 2 ⟨#[]⟩ 0 0 0 [], .node 1 ⟨#[]⟩ 0 0 0 []]
theorem up_plain : upPr.plainC = .node 1 ⟨#[]⟩ 0 0 0 [] := by
  simp [Pr.plainC, Pr.plainsC, Pr.finishC, Pr.mergeC, Pr.op]
theorem up_all : upPr.all = true := by decide +kernel
theorem up_size : upPr.size ≤ 60 := by decide
abbrev upIt : It := ⟨⟨#[]⟩, ⟨#[]⟩, 0, 0, 0⟩

set_option maxRecDepth 100000 in
set_option maxHeartbeats 2000000 in
theorem up4_calls (w : World) : Calls Try.prog 5 #[] w fun e w' => e = .returned (.bool true) ∧ Below w.heap.size w w' := by
  have P := fun v w' h => Lib.hid (plain_calls upPr v w' h up_size up_all)
  rw [up_plain] at P
  have X := fun v w' h => Lib.hid (has_calls upIt 0 0 0 false (by decide) (.node 1 ⟨#[]⟩ 0 0 0 []) v w' h)
  rw [show Pr.hasB upIt (.node 1 ⟨#[]⟩ 0 0 0 []) = true by simp [Pr.hasB]] at X
  have L := Lib.hid (lies_two_kids (p := .node 2 ⟨#[]⟩ 0 0 0 []) (q := .node 1 ⟨#[]⟩ 0 0 0 []) (v := .slice none 0 0) (v' := .slice none 0 0) (Own.new w #[.int .i64 2, .string ⟨#[]⟩, .int .i64 0, .complex .f64 0 0, .slice none 0 0, .int .i64 1, .string ⟨#[]⟩, .int .i64 0, .complex .f64 0 0, .slice none 0 0] 33) (lies_leaf 2 ⟨#[]⟩ 0 0 0 (by decide)) (lies_leaf 1 ⟨#[]⟩ 0 0 0 (by decide)) 9)
  go_enter Try.func5, Try.ntmps5
  go_wp2_with fail
  refine (P _ _ L.out).out.mono ?_
  rintro e w1 ⟨v, rfl, hl, hb⟩
  obtain ⟨o1, c1, rfl⟩ := lies_val hl
  have L1 := Lib.hid ((hl.mono (S' := fun b => b < w1.heap.size) (fun _ _ _ => rfl) (fun _ h => h.2)).atAlloc (.cells #[.int .i64 1, .string ⟨#[]⟩, .int .i64 0, .complex .f64 0 0, .slice o1 0 c1] 33))
  have B1 := Lib.hid ((below_new hb).alloc (below_new hb).size (.cells #[.int .i64 1, .string ⟨#[]⟩, .int .i64 0, .complex .f64 0 0, .slice o1 0 c1] 33))
  clear hl hb P L
  simp only [Pr.kids_node, List.length_nil, Pr.op_node, Pr.text_node, Pr.n_node, Pr.x_node, Pr.y_node]
  go_wp2_with (go_at_call 9; refine (X _ _ L1.out).out.mono ?_; rintro e w2 ⟨rfl, hb2⟩)
  go_ret
  exact ⟨rfl, B1.out.trans (hb2.mono B1.out.size)⟩

end Go.Proofs.Ytgfepbcolcmdgaa
