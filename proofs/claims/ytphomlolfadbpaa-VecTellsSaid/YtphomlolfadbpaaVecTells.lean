/- 'VecTells' returns true, whatever it is given: the walk. -/
import Derived.Test.YtphomlolfadbpaaVecUp
import Derived.Test.YtphomlolfadbpaaRefVec2
import Derived.Deep.DeepCutAuto
namespace Go.Proofs.Ytphomlolfadbpaa
open Go.RowKit

set_option maxRecDepth 100000 in
set_option maxHeartbeats 8000000 in
theorem vecTells_calls (A B : Nat → Int) (r c : Int) (w : World) :
    Calls Try.prog 3 #[vecV A, vecV B, .agg #[.int .i64 r, .int .i64 c]] w fun e w' => e = .returned (.bool true) ∧ Below w.heap.size w w' := by
  have U := fun w => Lib.hid (up6_calls w)
  have OX := Lib.hid (((Own.newAt w (arr8 A) 23 (b := w.heap.size) (by simp)).alloc (.cells (arr8 B) 23)).alloc (.cells #[.int .i64 r, .int .i64 c] 25))
  have OY := Lib.hid ((Own.newAt (w.alloc (.cells (arr8 A) 23)) (arr8 B) 23 (b := w.heap.size + 1) (by simp)).alloc (.cells #[.int .i64 r, .int .i64 c] 25))
  have OZ := Lib.hid (Own.newAt ((w.alloc (.cells (arr8 A) 23)).alloc (.cells (arr8 B) 23)) #[.int .i64 r, .int .i64 c] 25 (b := w.heap.size + 1 + 1) (by simp))
  have BEL := Lib.hid ((((Below.refl w.heap.size w).alloc (by omega) (.cells (arr8 A) 23)).alloc (by simp; try omega) (.cells (arr8 B) 23)).alloc (by simp; try omega) (.cells #[.int .i64 r, .int .i64 c] 25))
  go_enter Try.func3, Try.ntmps3
  go_wp2_with fail
  refine (U _).out.mono ?_; rintro e w1 ⟨rfl, hb⟩
  replace OX := Lib.hid (OX.out.later hb)
  replace OY := Lib.hid (OY.out.later hb)
  replace OZ := Lib.hid (OZ.out.later hb)
  replace BEL := Lib.hid (BEL.out.trans (hb.mono BEL.out.size))
  clear hb
  clear U
  go_wp2_with fail
  have LOX := fun dd os o => OX.out.has.regrown dd os o
  have LOY := fun dd os o => OY.out.has.regrown dd os o
  have LOZ := fun dd os o => OZ.out.has.regrown dd os o
  have m1 := fun dd os => Lib.hid (Calls.regrown_of (vecHas_calls A r c (Sort.grow (redrawn w1 dd) os)))
  have m2 := fun dd os => Lib.hid (Calls.regrown_of (hasVec_calls A r c (Sort.grow (redrawn w1 dd) os)))
  have m3 := fun dd os => Lib.hid (Calls.regrown_of (vecWith_calls A r c (Sort.grow (redrawn w1 dd) os)))
  have m4 := fun dd os => Lib.hid (Calls.regrown_of (refWith_calls A r c (Sort.grow (redrawn w1 dd) os)))
  generalize hasV A r c = hx at *
  generalize withV A r c = wx at *
  refine wp_region_quiet_below (by kernel_rfl) (by kernel_rfl) ?_
  repeat (first | go_big_quiet_step ((first | (with_reducible exact (m1 _ _).out) | (with_reducible exact (m2 _ _).out) | (with_reducible exact (m3 _ _).out) | (with_reducible exact (m4 _ _).out))) | quiet_step (first | (with_reducible exact (m1 _ _).out) | (with_reducible exact (m2 _ _).out) | (with_reducible exact (m3 _ _).out) | (with_reducible exact (m4 _ _).out)))
  refine wpQuiet_nil ?_
  intro w2 hw'
  have hb := regrown_below hw'
  clear hw' m1 m2 m3 m4
  clear LOX LOY LOZ
  replace OX := Lib.hid (OX.out.later hb)
  replace OY := Lib.hid (OY.out.later hb)
  replace OZ := Lib.hid (OZ.out.later hb)
  replace BEL := Lib.hid (BEL.out.trans (hb.mono BEL.out.size))
  clear hb
  go_wp2_with fail
  have LOX := fun dd os o => OX.out.has.regrown dd os o
  have LOY := fun dd os o => OY.out.has.regrown dd os o
  have LOZ := fun dd os o => OZ.out.has.regrown dd os o
  have m1 := fun dd os => Lib.hid (Calls.regrown_of (vecMax_calls A B (Sort.grow (redrawn w2 dd) os)))
  have m2 := fun dd os => Lib.hid (Calls.regrown_of (refMax_calls A B (Sort.grow (redrawn w2 dd) os)))
  have m3 := fun dd os => Lib.hid (Calls.regrown_of (vecIn_calls A B (Sort.grow (redrawn w2 dd) os)))
  have m4 := fun dd os => Lib.hid (Calls.regrown_of (inVec_calls A B (Sort.grow (redrawn w2 dd) os)))
  generalize maxV A B = mx at *
  generalize inV A B = ix at *
  refine wp_region_quiet_below (by kernel_rfl) (by kernel_rfl) ?_
  repeat (first | go_big_quiet_step ((first | (with_reducible exact (m1 _ _).out) | (with_reducible exact (m2 _ _).out) | (with_reducible exact (m3 _ _).out) | (with_reducible exact (m4 _ _).out))) | quiet_step (first | (with_reducible exact (m1 _ _).out) | (with_reducible exact (m2 _ _).out) | (with_reducible exact (m3 _ _).out) | (with_reducible exact (m4 _ _).out)))
  refine wpQuiet_nil ?_
  intro w3 hw'
  have hb := regrown_below hw'
  clear hw' m1 m2 m3 m4
  clear LOX LOY LOZ
  replace OX := Lib.hid (OX.out.later hb)
  replace OY := Lib.hid (OY.out.later hb)
  replace OZ := Lib.hid (OZ.out.later hb)
  replace BEL := Lib.hid (BEL.out.trans (hb.mono BEL.out.size))
  clear hb
  go_wp2_with fail
  have LOX := fun dd os o => OX.out.has.regrown dd os o
  have LOY := fun dd os o => OY.out.has.regrown dd os o
  have LOZ := fun dd os o => OZ.out.has.regrown dd os o
  have m1 := fun dd os => Lib.hid (Calls.regrown_of (vecMay_calls A (Sort.grow (redrawn w3 dd) os)))
  have m2 := fun dd os => Lib.hid (Calls.regrown_of (mayVec_calls A (Sort.grow (redrawn w3 dd) os)))
  generalize mayV A = yx at *
  refine wp_region_quiet_below (by kernel_rfl) (by kernel_rfl) ?_
  repeat (first | go_big_quiet_step ((first | (with_reducible exact (m1 _ _).out) | (with_reducible exact (m2 _ _).out))) | quiet_step (first | (with_reducible exact (m1 _ _).out) | (with_reducible exact (m2 _ _).out)))
  refine wpQuiet_nil ?_
  intro w4 hw'
  have hb := regrown_below hw'
  clear hw' m1 m2
  clear LOX LOY LOZ
  replace OX := Lib.hid (OX.out.later hb)
  replace OY := Lib.hid (OY.out.later hb)
  replace OZ := Lib.hid (OZ.out.later hb)
  replace BEL := Lib.hid (BEL.out.trans (hb.mono BEL.out.size))
  clear hb
  go_wp2_with fail
  go_ret
  exact ⟨rfl, BEL.out⟩

end Go.Proofs.Ytphomlolfadbpaa
