/- contain.In: the walk. -/
import Derived.Test.YtechmejmlelmmaaSeen
import Derived.Test.YtechmejmlelmmaaInM
import Derived.Test.YtechmejmlelmmaaFits
namespace Go.Proofs.Ytechmejmlelmmaa
set_option linter.unusedVariables false
set_option linter.unusedSimpArgs false
set_option maxRecDepth 100000
open Go.RowKit

set_option maxRecDepth 100000 in
set_option maxHeartbeats 4000000 in
theorem contIn_calls (p q : Pr) (v v' : Value) (w : World) (hL : LP w p v) (hM : LP w q v') (_h1 : p.size ≤ 1000) (_h2 : q.size ≤ 1000) :
    Calls Try.prog 10 #[.agg #[.int .i64 p.op, .string p.text, .int .i64 p.n, .complex .f64 p.x p.y, v], .agg #[.int .i64 q.op, .string q.text, .int .i64 q.n, .complex .f64 q.x q.y, v']] w fun e w' => e = .returned (.bool (Pr.inB p q)) ∧ Below w.heap.size w w' := by
  clear _h1 _h2
  obtain ⟨oa, cap, rfl⟩ := lies_val hL
  obtain ⟨oa', cap', rfl⟩ := lies_val hM
  generalize p.kids.length = len at *
  generalize q.kids.length = len' at *
  have hL2 := (hL.atAlloc (.cells (pa p (.slice oa len cap)) 37)).atAlloc (.cells (pa q (.slice oa' len' cap')) 37)
  have hM2 := (hM.atAlloc (.cells (pa p (.slice oa len cap)) 37)).atAlloc (.cells (pa q (.slice oa' len' cap')) 37)
  have G1 := Lib.hid ((Has.new w (pa p (.slice oa len cap)) 37).alloc (.cells (pa q (.slice oa' len' cap')) 37))
  have G2 := Lib.hid ((Own.newAt (w.alloc (.cells (pa p (.slice oa len cap)) 37)) (pa q (.slice oa' len' cap')) 37 (b := w.heap.size + 1) (by simp)).has)
  have B0 := Lib.hid (Below.refl ((w.alloc (.cells (pa p (.slice oa len cap)) 37)).alloc (.cells (pa q (.slice oa' len' cap')) 37)).heap.size ((w.alloc (.cells (pa p (.slice oa len cap)) 37)).alloc (.cells (pa q (.slice oa' len' cap')) 37)))
  generalize hw2 : ((w.alloc (.cells (pa p (.slice oa len cap)) 37)).alloc (.cells (pa q (.slice oa' len' cap')) 37)) = w2 at *
  have CP := fun (w' : World) (hb : Below w2.heap.size w2 w') => Lib.hid (predMay_calls p _ w' (hL2.later hb (Nat.le_refl _)))
  have CQ := fun (w' : World) (hb : Below w2.heap.size w2 w') => Lib.hid (predMay_calls q _ w' (hM2.later hb (Nat.le_refl _)))
  have cs := fun (h1 : p.mayB = true) (h2 : q.mayB = true) (w' : World) (hb : Below w2.heap.size w2 w') => Lib.hid (cseen_calls p q (predMay_parts h1).2.2 (predMay_parts h2).2.2 _ _ w' (hL2.later hb (Nat.le_refl _)) (hM2.later hb (Nat.le_refl _)))
  subst hw2
  have HCS := Lib.hid cs
  clear cs
  unfold Pr.inB
  clear hL hM hL2 hM2
  generalize Pr.seenB p q = x3 at *
  generalize p.mayB = x1 at *
  generalize q.mayB = x2 at *
  obtain ⟨op, t, n, x, y, kids⟩ := p
  obtain ⟨op', t', n', x', y', kids'⟩ := q
  simp only [pa, pv, Pr.text_node, Pr.op_node, Pr.n_node, Pr.x_node, Pr.y_node] at *
  cases x1
  · clear HCS CQ
    go_enter Try.func10, Try.ntmps10
    go_wp2_with fail
    refine (CP _ B0.out).out.mono ?_; rintro e w3 ⟨rfl, hb0⟩
    go_wp2_with fail
    go_ret
    exact ⟨ret_bool (by simp), below_new (below_new hb0)⟩
  · cases x2
    · clear HCS
      go_enter Try.func10, Try.ntmps10
      go_wp2_with fail
      refine (CP _ B0.out).out.mono ?_; rintro e w3 ⟨rfl, hb0⟩
      have B1 := Lib.hid (B0.out.trans (hb0.mono B0.out.size))
      have G2 := Lib.hid (G2.out.below hb0 G2.out.lt)
      have G1 := Lib.hid (G1.out.below hb0 G1.out.lt)
      clear hb0
      have m0 := G2.out.cell
      have u0 := G2.out.lt
      go_wp2_with fail
      refine (CQ _ B1.out).out.mono ?_; rintro e w4 ⟨rfl, hb1⟩
      go_wp2_with fail
      go_ret
      exact ⟨ret_bool (by simp), below_new (below_new (B1.out.trans (hb1.mono B1.out.size)))⟩
    · have CS := HCS.out rfl rfl
      clear HCS
      go_enter Try.func10, Try.ntmps10
      go_wp2_with fail
      refine (CP _ B0.out).out.mono ?_; rintro e w3 ⟨rfl, hb0⟩
      have B1 := Lib.hid (B0.out.trans (hb0.mono B0.out.size))
      have G2 := Lib.hid (G2.out.below hb0 G2.out.lt)
      have G1 := Lib.hid (G1.out.below hb0 G1.out.lt)
      clear hb0
      have m0 := G2.out.cell
      have u0 := G2.out.lt
      go_wp2_with fail
      refine (CQ _ B1.out).out.mono ?_; rintro e w4 ⟨rfl, hb1⟩
      have B2 := Lib.hid (B1.out.trans (hb1.mono B1.out.size))
      have G2 := Lib.hid (G2.out.below hb1 G2.out.lt)
      have G1 := Lib.hid (G1.out.below hb1 G1.out.lt)
      clear hb1 m0 u0
      have m1 := G2.out.cell
      have u1 := G2.out.lt
      have l1 := G1.out.cell
      have z1 := G1.out.lt
      go_wp2_with fail
      refine (CS _ B2.out).out.mono ?_; rintro e w5 ⟨rfl, hb2⟩
      go_wp2_with fail
      go_ret
      exact ⟨ret_bool (by simp), below_new (below_new (B2.out.trans (hb2.mono B2.out.size)))⟩

end Go.Proofs.Ytechmejmlelmmaa
