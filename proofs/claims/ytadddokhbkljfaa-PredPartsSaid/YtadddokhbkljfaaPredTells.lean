/- 'PredTells' returns true, whatever it is given: the walk. -/
import Derived.Test.YtadddokhbkljfaaRefSame
import Derived.Test.YtadddokhbkljfaaConv
namespace Go.Proofs.Ytadddokhbkljfaa
open Go.RowKit

theorem lies_leaf {w : World} (op : Int) (t : ByteArray) (n : Int) (x y : Nat) (ht : t.size ≤ maxLen) : LP w (.node op t n x y []) (.slice none 0 0) :=
  .mk op t n x y [] none 0 0 0 (fun _ => .nilFunc) ht (Nat.le_refl _) (Nat.zero_le _) (fun h => absurd h (Nat.lt_irrefl _)) (fun i p h => by simp at h) (fun i p h => by simp at h)

set_option maxHeartbeats 1000000 in
theorem up3_calls (w : World) : Calls Try.prog 5 #[] w fun e w' => e = .returned (.bool true) ∧ Below w.heap.size w w' := by
  have H1 := fun w => Lib.hid (predMay_calls (.node 1 ⟨#[]⟩ 0 0 0 []) (.slice none 0 0) w (lies_leaf 1 ⟨#[]⟩ 0 0 0 (by decide)))
  have H2 := fun w => Lib.hid (predMay_calls (.node 10 ⟨#[]⟩ 0 0 0 []) (.slice none 0 0) w (lies_leaf 10 ⟨#[]⟩ 0 0 0 (by decide)))
  have H3 := fun w => Lib.hid (size_calls (.node 0 ⟨#[]⟩ 0 0 0 []) (.slice none 0 0) w (lies_leaf 0 ⟨#[]⟩ 0 0 0 (by decide)) (by decide))
  have H4 := fun w => Lib.hid (depth_calls (.node 0 ⟨#[]⟩ 0 0 0 []) (.slice none 0 0) w (lies_leaf 0 ⟨#[]⟩ 0 0 0 (by decide)) (by decide))
  rw [show Pr.mayB (.node 1 ⟨#[]⟩ 0 0 0 []) = true by decide +kernel] at H1
  rw [show Pr.mayB (.node 10 ⟨#[]⟩ 0 0 0 []) = false by decide +kernel] at H2
  rw [show Pr.size (.node 0 ⟨#[]⟩ 0 0 0 []) = 1 by decide] at H3
  rw [show Pr.depth (.node 0 ⟨#[]⟩ 0 0 0 []) = 1 by decide] at H4
  go_enter Try.func5, Try.ntmps5
  go_wp2_with fail
  refine (H1 _).out.mono ?_; rintro e w1 ⟨rfl, hb1⟩
  go_wp2_with fail
  refine (H2 _).out.mono ?_; rintro e w2 ⟨rfl, hb2⟩
  go_wp2_with fail
  refine (H3 _).out.mono ?_; rintro e w3 ⟨rfl, hb3⟩
  go_wp2_with fail
  refine (H4 _).out.mono ?_; rintro e w4 ⟨rfl, hb4⟩
  go_wp2_with fail
  go_ret
  have b2 := hb1.trans (hb2.mono hb1.size)
  have b3 := b2.trans (hb3.mono b2.size)
  exact ⟨rfl, b3.trans (hb4.mono b3.size)⟩

set_option maxRecDepth 100000 in
set_option maxHeartbeats 4000000 in
theorem predTells_calls (p q : Pr) (k k' : Value) (w : World) (hL : LT w p k) (hM : LT w q k') :
    Calls Try.prog 3 #[.agg #[.int .i64 p.op, .string p.text, .int .i64 p.n, .float .f64 p.x, .float .f64 p.y, k], .agg #[.int .i64 q.op, .string q.text, .int .i64 q.n, .float .f64 q.x, .float .f64 q.y, k']] w fun e w' => e = .returned (.bool true) ∧ Below w.heap.size w w' := by
  obtain ⟨op1, cp1, rfl⟩ := lies_val hL
  obtain ⟨oq1, cq1, rfl⟩ := lies_val hM
  have U := fun w => Lib.hid (up3_calls w)
  have OX := Lib.hid ((Own.new w #[.int .i64 p.op, .string p.text, .int .i64 p.n, .float .f64 p.x, .float .f64 p.y, (.slice op1 p.kids.length cp1)] 25).alloc (.cells #[.int .i64 q.op, .string q.text, .int .i64 q.n, .float .f64 q.x, .float .f64 q.y, (.slice oq1 q.kids.length cq1)] 25))
  have OY := Lib.hid (Own.newAt (w.alloc (.cells #[.int .i64 p.op, .string p.text, .int .i64 p.n, .float .f64 p.x, .float .f64 p.y, (.slice op1 p.kids.length cp1)] 25)) #[.int .i64 q.op, .string q.text, .int .i64 q.n, .float .f64 q.x, .float .f64 q.y, (.slice oq1 q.kids.length cq1)] 25 (b := w.heap.size + 1) (by simp))
  have LX := Lib.hid ((hL.atAlloc (.cells #[.int .i64 p.op, .string p.text, .int .i64 p.n, .float .f64 p.x, .float .f64 p.y, (.slice op1 p.kids.length cp1)] 25)).atAlloc (.cells #[.int .i64 q.op, .string q.text, .int .i64 q.n, .float .f64 q.x, .float .f64 q.y, (.slice oq1 q.kids.length cq1)] 25))
  have LY := Lib.hid ((hM.atAlloc (.cells #[.int .i64 p.op, .string p.text, .int .i64 p.n, .float .f64 p.x, .float .f64 p.y, (.slice op1 p.kids.length cp1)] 25)).atAlloc (.cells #[.int .i64 q.op, .string q.text, .int .i64 q.n, .float .f64 q.x, .float .f64 q.y, (.slice oq1 q.kids.length cq1)] 25))
  have BEL := Lib.hid ((((Below.refl w.heap.size w).alloc (Nat.le_refl _) (.cells #[.int .i64 p.op, .string p.text, .int .i64 p.n, .float .f64 p.x, .float .f64 p.y, (.slice op1 p.kids.length cp1)] 25)).alloc (by simp) (.cells #[.int .i64 q.op, .string q.text, .int .i64 q.n, .float .f64 q.x, .float .f64 q.y, (.slice oq1 q.kids.length cq1)] 25)))
  clear hL hM
  go_enter Try.func3, Try.ntmps3
  go_wp2_with fail
  refine (U _).out.mono ?_; rintro e w1 ⟨rfl, hb⟩
  replace OX := Lib.hid (OX.out.later hb)
  replace OY := Lib.hid (OY.out.later hb)
  replace LX := Lib.hid (LX.out.later hb (Nat.le_refl _))
  replace LY := Lib.hid (LY.out.later hb (Nat.le_refl _))
  replace BEL := Lib.hid (BEL.out.trans (hb.mono BEL.out.size))
  clear hb
  clear U
  have LOX := fun dd os o => OX.out.has.regrown dd os o
  have LOY := fun dd os o => OY.out.has.regrown dd os o
  have m1 := fun dd os => Lib.hid (Calls.regrown_of (small_calls p (.slice op1 p.kids.length cp1) (Sort.grow (redrawn w1 dd) os) (LX.out.later (below_regrown _ _ _) (Nat.le_refl _))))
  have m2 := fun dd os => Lib.hid (Calls.regrown_of (small_calls q (.slice oq1 q.kids.length cq1) (Sort.grow (redrawn w1 dd) os) (LY.out.later (below_regrown _ _ _) (Nat.le_refl _))))
  by_cases h1 : p.size ≤ 60
  · by_cases h2 : q.size ≤ 60
    · simp only [if_pos h1] at m1
      simp only [if_pos h2] at m2
      go_wp2_with fail
      refine wp_region_quiet_below (by kernel_rfl) (by kernel_rfl) ?_
      repeat (first | go_big_quiet_step ((first | (with_reducible exact (m1 _ _).out) | (with_reducible exact (m2 _ _).out))) | quiet_step (first | (with_reducible exact (m1 _ _).out) | (with_reducible exact (m2 _ _).out)))
      refine wpQuiet_nil ?_
      intro w2 hw'
      have hb := regrown_below hw'
      clear hw' m1 m2
      clear LOX LOY
      replace OX := Lib.hid (OX.out.later hb)
      replace OY := Lib.hid (OY.out.later hb)
      replace LX := Lib.hid (LX.out.later hb (Nat.le_refl _))
      replace LY := Lib.hid (LY.out.later hb (Nat.le_refl _))
      replace BEL := Lib.hid (BEL.out.trans (hb.mono BEL.out.size))
      clear hb
      have lOX := OX.out.cell
      have zOX := OX.out.lt
      have lOY := OY.out.cell
      have zOY := OY.out.lt
      go_wp2_with fail
      refine (conv_calls p (.slice op1 p.kids.length cp1) _ LX.out h1).mono ?_
      rintro e w3 ⟨va, rfl, hla, hb⟩
      obtain ⟨oa, ca, rfl⟩ := lies_val hla
      have LA := Lib.hid (hla.mono (S' := fun b => b < w3.heap.size) (fun _ _ _ => rfl) (fun _ h => h.2))
      clear hla
      clear lOX zOX lOY zOY
      replace OY := Lib.hid (OY.out.later hb)
      replace LY := Lib.hid (LY.out.later hb (Nat.le_refl _))
      replace BEL := Lib.hid (BEL.out.trans (hb.mono BEL.out.size))
      clear hb
      clear OX LX
      have lOY := OY.out.cell
      have zOY := OY.out.lt
      go_wp2_with fail
      clear lOY zOY
      replace OY := Lib.hid (OY.out.alloc (.cells #[.int .i64 p.op, .string p.text, .int .i64 p.n, .complex .f64 p.x p.y, .slice oa p.kids.length ca] 31))
      replace LY := Lib.hid (LY.out.atAlloc (.cells #[.int .i64 p.op, .string p.text, .int .i64 p.n, .complex .f64 p.x p.y, .slice oa p.kids.length ca] 31))
      replace LA := Lib.hid (LA.out.atAlloc (.cells #[.int .i64 p.op, .string p.text, .int .i64 p.n, .complex .f64 p.x p.y, .slice oa p.kids.length ca] 31))
      have OA := Lib.hid (Own.new w3 #[.int .i64 p.op, .string p.text, .int .i64 p.n, .complex .f64 p.x p.y, .slice oa p.kids.length ca] 31)
      replace BEL := Lib.hid (BEL.out.alloc BEL.out.size (.cells #[.int .i64 p.op, .string p.text, .int .i64 p.n, .complex .f64 p.x p.y, .slice oa p.kids.length ca] 31))
      generalize w3.heap.size = A at *
      generalize w3.alloc (.cells #[.int .i64 p.op, .string p.text, .int .i64 p.n, .complex .f64 p.x p.y, .slice oa p.kids.length ca] 31) = w3' at *
      have lOY := OY.out.cell
      have zOY := OY.out.lt
      refine (conv_calls q (.slice oq1 q.kids.length cq1) _ LY.out h2).mono ?_
      rintro e w4 ⟨vb, rfl, hlb, hb⟩
      obtain ⟨ob, cb, rfl⟩ := lies_val hlb
      have LB := Lib.hid (hlb.mono (S' := fun b => b < w4.heap.size) (fun _ _ _ => rfl) (fun _ h => h.2))
      clear hlb
      clear lOY zOY
      replace OA := Lib.hid (OA.out.later hb)
      replace LA := Lib.hid (LA.out.later hb (Nat.le_refl _))
      replace BEL := Lib.hid (BEL.out.trans (hb.mono BEL.out.size))
      clear hb
      clear OY LY
      go_wp2_with fail
      replace OA := Lib.hid (OA.out.alloc (.cells #[.int .i64 q.op, .string q.text, .int .i64 q.n, .complex .f64 q.x q.y, .slice ob q.kids.length cb] 31))
      replace LA := Lib.hid (LA.out.atAlloc (.cells #[.int .i64 q.op, .string q.text, .int .i64 q.n, .complex .f64 q.x q.y, .slice ob q.kids.length cb] 31))
      replace LB := Lib.hid (LB.out.atAlloc (.cells #[.int .i64 q.op, .string q.text, .int .i64 q.n, .complex .f64 q.x q.y, .slice ob q.kids.length cb] 31))
      have OB := Lib.hid (Own.new w4 #[.int .i64 q.op, .string q.text, .int .i64 q.n, .complex .f64 q.x q.y, .slice ob q.kids.length cb] 31)
      replace BEL := Lib.hid (BEL.out.alloc BEL.out.size (.cells #[.int .i64 q.op, .string q.text, .int .i64 q.n, .complex .f64 q.x q.y, .slice ob q.kids.length cb] 31))
      generalize w4.heap.size = B at *
      generalize w4.alloc (.cells #[.int .i64 q.op, .string q.text, .int .i64 q.n, .complex .f64 q.x q.y, .slice ob q.kids.length cb] 31) = w4' at *
      generalize w4' = w5 at *
      have LOA := fun dd os o => OA.out.has.regrown dd os o
      have LOB := fun dd os o => OB.out.has.regrown dd os o
      have m1 := fun dd os => Lib.hid (Calls.regrown_of (predMay_calls p (.slice oa p.kids.length ca) (Sort.grow (redrawn w5 dd) os) (LA.out.later (below_regrown _ _ _) (Nat.le_refl _))))
      have m2 := fun dd os => Lib.hid (Calls.regrown_of (refMay3_calls p (.slice oa p.kids.length ca) (Sort.grow (redrawn w5 dd) os) (LA.out.later (below_regrown _ _ _) (Nat.le_refl _)) (by omega)))
      generalize p.mayB = mb at *
      go_wp2_with fail
      refine wp_region_quiet_below (by kernel_rfl) (by kernel_rfl) ?_
      repeat (first | go_big_quiet_step ((first | (with_reducible exact (m1 _ _).out) | (with_reducible exact (m2 _ _).out))) | quiet_step (first | (with_reducible exact (m1 _ _).out) | (with_reducible exact (m2 _ _).out)))
      refine wpQuiet_nil ?_
      intro w6 hw'
      have hb := regrown_below hw'
      clear hw' m1 m2
      clear LOA LOB
      replace OA := Lib.hid (OA.out.later hb)
      replace OB := Lib.hid (OB.out.later hb)
      replace LA := Lib.hid (LA.out.later hb (Nat.le_refl _))
      replace LB := Lib.hid (LB.out.later hb (Nat.le_refl _))
      replace BEL := Lib.hid (BEL.out.trans (hb.mono BEL.out.size))
      clear hb
      go_wp2_with fail
      have LOA := fun dd os o => OA.out.has.regrown dd os o
      have LOB := fun dd os o => OB.out.has.regrown dd os o
      have m1 := fun dd os => Lib.hid (Calls.regrown_of (size_calls p (.slice oa p.kids.length ca) (Sort.grow (redrawn w6 dd) os) (LA.out.later (below_regrown _ _ _) (Nat.le_refl _)) (by omega)))
      have m2 := fun dd os => Lib.hid (Calls.regrown_of (refSize_calls p (.slice oa p.kids.length ca) (Sort.grow (redrawn w6 dd) os) (LA.out.later (below_regrown _ _ _) (Nat.le_refl _)) (by omega)))
      have m3 := fun dd os => Lib.hid (Calls.regrown_of (depth_calls p (.slice oa p.kids.length ca) (Sort.grow (redrawn w6 dd) os) (LA.out.later (below_regrown _ _ _) (Nat.le_refl _)) (by omega)))
      have m4 := fun dd os => Lib.hid (Calls.regrown_of (refDepth_calls p (.slice oa p.kids.length ca) (Sort.grow (redrawn w6 dd) os) (LA.out.later (below_regrown _ _ _) (Nat.le_refl _)) (by omega)))
      generalize p.size = sz at *
      generalize p.depth = dp at *
      refine wp_region_quiet_below (by kernel_rfl) (by kernel_rfl) ?_
      repeat (first | go_big_quiet_step ((first | (with_reducible exact (m1 _ _).out) | (with_reducible exact (m2 _ _).out) | (with_reducible exact (m3 _ _).out) | (with_reducible exact (m4 _ _).out))) | quiet_step (first | (with_reducible exact (m1 _ _).out) | (with_reducible exact (m2 _ _).out) | (with_reducible exact (m3 _ _).out) | (with_reducible exact (m4 _ _).out)))
      refine wpQuiet_nil ?_
      intro w7 hw'
      have hb := regrown_below hw'
      clear hw' m1 m2 m3 m4
      clear LOA LOB
      replace OA := Lib.hid (OA.out.later hb)
      replace OB := Lib.hid (OB.out.later hb)
      replace LA := Lib.hid (LA.out.later hb (Nat.le_refl _))
      replace LB := Lib.hid (LB.out.later hb (Nat.le_refl _))
      replace BEL := Lib.hid (BEL.out.trans (hb.mono BEL.out.size))
      clear hb
      go_wp2_with fail
      have LOA := fun dd os o => OA.out.has.regrown dd os o
      have LOB := fun dd os o => OB.out.has.regrown dd os o
      have m1 := fun dd os => Lib.hid (Calls.regrown_of (same_any p q (.slice oa p.kids.length ca) (.slice ob q.kids.length cb) (Sort.grow (redrawn w7 dd) os) (LA.out.later (below_regrown _ _ _) (Nat.le_refl _)) (LB.out.later (below_regrown _ _ _) (Nat.le_refl _))))
      have m2 := fun dd os => Lib.hid (Calls.regrown_of (refSame_any p q (.slice oa p.kids.length ca) (.slice ob q.kids.length cb) (Sort.grow (redrawn w7 dd) os) (LA.out.later (below_regrown _ _ _) (Nat.le_refl _)) (LB.out.later (below_regrown _ _ _) (Nat.le_refl _))))
      generalize Pr.same p q = sm at *
      refine wp_region_quiet_below (by kernel_rfl) (by kernel_rfl) ?_
      repeat (first | go_big_quiet_step ((first | (with_reducible exact (m1 _ _).out) | (with_reducible exact (m2 _ _).out))) | quiet_step (first | (with_reducible exact (m1 _ _).out) | (with_reducible exact (m2 _ _).out)))
      refine wpQuiet_nil ?_
      intro w8 hw'
      have hb := regrown_below hw'
      clear hw' m1 m2
      clear LOA LOB
      replace OA := Lib.hid (OA.out.later hb)
      replace OB := Lib.hid (OB.out.later hb)
      replace LA := Lib.hid (LA.out.later hb (Nat.le_refl _))
      replace LB := Lib.hid (LB.out.later hb (Nat.le_refl _))
      replace BEL := Lib.hid (BEL.out.trans (hb.mono BEL.out.size))
      clear hb
      go_wp2_with fail
      go_ret
      exact ⟨rfl, BEL.out⟩
    · simp only [if_pos h1] at m1
      simp only [if_neg h2] at m2
      go_wp2_with fail
      refine wp_region_quiet_below (by kernel_rfl) (by kernel_rfl) ?_
      repeat (first | go_big_quiet_step ((first | (with_reducible exact (m1 _ _).out) | (with_reducible exact (m2 _ _).out))) | quiet_step (first | (with_reducible exact (m1 _ _).out) | (with_reducible exact (m2 _ _).out)))
      refine wpQuiet_nil ?_
      intro w2 hw'
      have hb := regrown_below hw'
      clear hw' m1 m2
      clear LOX LOY
      replace OX := Lib.hid (OX.out.later hb)
      replace OY := Lib.hid (OY.out.later hb)
      replace LX := Lib.hid (LX.out.later hb (Nat.le_refl _))
      replace LY := Lib.hid (LY.out.later hb (Nat.le_refl _))
      replace BEL := Lib.hid (BEL.out.trans (hb.mono BEL.out.size))
      clear hb
      go_wp2_with fail
      go_ret
      exact ⟨rfl, BEL.out⟩
  · simp only [if_neg h1] at m1
    by_cases h2 : q.size ≤ 60
    · simp only [if_pos h2] at m2
      go_wp2_with fail
      refine wp_region_quiet_below (by kernel_rfl) (by kernel_rfl) ?_
      repeat (first | go_big_quiet_step ((first | (with_reducible exact (m1 _ _).out) | (with_reducible exact (m2 _ _).out))) | quiet_step (first | (with_reducible exact (m1 _ _).out) | (with_reducible exact (m2 _ _).out)))
      refine wpQuiet_nil ?_
      intro w2 hw'
      have hb := regrown_below hw'
      clear hw' m1 m2
      clear LOX LOY
      replace OX := Lib.hid (OX.out.later hb)
      replace OY := Lib.hid (OY.out.later hb)
      replace LX := Lib.hid (LX.out.later hb (Nat.le_refl _))
      replace LY := Lib.hid (LY.out.later hb (Nat.le_refl _))
      replace BEL := Lib.hid (BEL.out.trans (hb.mono BEL.out.size))
      clear hb
      go_wp2_with fail
      go_ret
      exact ⟨rfl, BEL.out⟩
    · simp only [if_neg h2] at m2
      go_wp2_with fail
      refine wp_region_quiet_below (by kernel_rfl) (by kernel_rfl) ?_
      repeat (first | go_big_quiet_step ((first | (with_reducible exact (m1 _ _).out) | (with_reducible exact (m2 _ _).out))) | quiet_step (first | (with_reducible exact (m1 _ _).out) | (with_reducible exact (m2 _ _).out)))
      refine wpQuiet_nil ?_
      intro w2 hw'
      have hb := regrown_below hw'
      clear hw' m1 m2
      clear LOX LOY
      replace OX := Lib.hid (OX.out.later hb)
      replace OY := Lib.hid (OY.out.later hb)
      replace LX := Lib.hid (LX.out.later hb (Nat.le_refl _))
      replace LY := Lib.hid (LY.out.later hb (Nat.le_refl _))
      replace BEL := Lib.hid (BEL.out.trans (hb.mono BEL.out.size))
      clear hb
      go_wp2_with fail
      go_ret
      exact ⟨rfl, BEL.out⟩

end Go.Proofs.Ytadddokhbkljfaa
