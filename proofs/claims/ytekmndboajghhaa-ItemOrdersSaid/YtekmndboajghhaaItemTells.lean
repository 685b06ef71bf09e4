/- 'ItemTells' returns true, whatever it is given: the walk. -/
import Derived.Test.YtekmndboajghhaaItemE
namespace Go.Proofs.Ytekmndboajghhaa
open Go.RowKit

set_option maxHeartbeats 1000000 in
theorem up2_calls (w : World) : Calls Try.prog 5 #[] w fun e w' => e = .returned (.bool true) ∧ Below w.heap.size w w' := by
  have H1 := Lib.hid (compare_calls ⟨#[]⟩ 0 0 3 ⟨#[]⟩ 0 0 0 false ⟨#[]⟩ 0 0 2 ⟨#[]⟩ 0 0 0 false w)
  have H2 := fun w => Lib.hid (name_calls ⟨#[97]⟩ w)
  have H3 := fun w => Lib.hid (same_calls ⟨#[]⟩ 0 0 0 ⟨#[]⟩ 0 0 0 false ⟨#[]⟩ 0 0 0 ⟨#[]⟩ 0 0 0 false w)
  rw [show cmpV 3 0 0 2 0 0 = 1 by decide] at H1
  rw [show nameB ⟨#[97]⟩ = true by decide] at H2
  rw [show sameB ⟨#[]⟩ 0 0 0 ⟨#[]⟩ 0 0 0 false ⟨#[]⟩ 0 0 0 ⟨#[]⟩ 0 0 0 false = true by decide +kernel] at H3
  go_enter Try.func5, Try.ntmps5
  go_wp2_with fail
  refine (H1.out).mono ?_; rintro e w1 ⟨rfl, hb⟩
  go_wp2_with fail
  refine ((H2 _).out).mono ?_; rintro e w' ⟨rfl, rfl⟩
  go_wp2_with fail
  refine ((H3 _).out).mono ?_; rintro e w' ⟨rfl, hb'⟩
  go_wp2
  go_ret
  exact ⟨rfl, hb.trans (hb'.mono hb.size)⟩

set_option maxHeartbeats 1000000 in
theorem itemTells_calls (s : ByteArray) (id : ByteArray) (r c st : Int) (kd : ByteArray) (n : Int) (x y : Nat) (d : Bool) (id' : ByteArray) (r' c' st' : Int) (kd' : ByteArray) (n' : Int) (x' y' : Nat) (d' : Bool) (w : World)
    (hs : s.size ≤ maxLen) (hi : id.size ≤ maxLen) (hk : kd.size ≤ maxLen) :
    Calls Try.prog 3 #[.string s, rowV id r c st kd n x y d, rowV id' r' c' st' kd' n' x' y' d'] w fun e w' => e = .returned (.bool true) ∧ Below w.heap.size w w' := by
  have U := fun w => Lib.hid (up2_calls w)
  have I := fun id r c st kd n x y d w => Lib.hid (item_calls id r c st kd n x y d w)
  have N1 := fun w => Lib.hid (name_calls s w)
  have N2 := fun w => Lib.hid (refName_calls s w hs)
  have M1 := fun w => Lib.hid (itemMay_calls id r c st kd n x y d w)
  have M2 := fun w => Lib.hid (refMay_calls id r c st kd n x y d w hi hk)
  go_enter Try.func3, Try.ntmps3
  go_wp2_with fail
  refine ((U _).out).mono ?_; rintro e w1 ⟨rfl, hb1⟩
  have g1 := ((Has.new w #[.string id, .int .i64 r, .int .i64 c, .int .i64 st, .string kd, .int .i64 n, .float .f64 x, .float .f64 y, .bool d] 24).alloc (.cells #[.string id', .int .i64 r', .int .i64 c', .int .i64 st', .string kd', .int .i64 n', .float .f64 x', .float .f64 y', .bool d'] 24)).below hb1 (by simp; omega)
  have g2 := (Has.new (w.alloc (.cells #[.string id, .int .i64 r, .int .i64 c, .int .i64 st, .string kd, .int .i64 n, .float .f64 x, .float .f64 y, .bool d] 24)) #[.string id', .int .i64 r', .int .i64 c', .int .i64 st', .string kd', .int .i64 n', .float .f64 x', .float .f64 y', .bool d'] 24).below hb1 (by simp)
  have B1 := Lib.hid hb1
  clear hb1
  have l1 := g1.cell
  simp only [World.size_alloc] at g2
  have l2 := g2.cell
  go_wp2_with fail
  refine ((I _ _ _ _ _ _ _ _ _ _).out).mono ?_; rintro e w2 ⟨rfl, hb2⟩
  have g2 := g2.below hb2 g2.lt
  have B2 := Lib.hid hb2
  clear hb2 l1 l2 g1
  have l2 := g2.cell
  have z2 := g2.lt
  go_wp2_with fail
  refine ((I _ _ _ _ _ _ _ _ _ _).out).mono ?_; rintro e w3 ⟨rfl, hb3⟩
  have a2 := (Has.new w2 #[.string id, .int .i64 r, .int .i64 c, .int .i64 st, .string kd, .int .i64 n, .complex .f64 x y, .bool d] 30).below hb3 (by simp)
  have B3 := Lib.hid hb3
  clear hb3 l2 g2
  have l3 := a2.cell
  have z3 := a2.lt
  go_wp2_with fail
  refine ((N1 _).out).mono ?_; rintro e w' ⟨rfl, rfl⟩
  go_wp2_with fail
  refine ((N2 _).out).mono ?_; rintro e w' ⟨rfl, rfl⟩
  go_wp2_with fail
  have A1 := a2.alloc (.cells #[.string id', .int .i64 r', .int .i64 c', .int .i64 st', .string kd', .int .i64 n', .complex .f64 x' y', .bool d'] 30)
  have A2 := Has.new w3 #[.string id', .int .i64 r', .int .i64 c', .int .i64 st', .string kd', .int .i64 n', .complex .f64 x' y', .bool d'] 30
  have bel : Below w.heap.size w (w3.alloc (.cells #[.string id', .int .i64 r', .int .i64 c', .int .i64 st', .string kd', .int .i64 n', .complex .f64 x' y', .bool d'] 30)) := by
    have b1 := below_new (below_new B1.out)
    have b2 := b1.trans (B2.out.mono b1.size)
    have b3 := b2.trans ((below_new B3.out).mono b2.size)
    exact b3.alloc b3.size _
  clear l3 z3 z2 g2 a2 B1 B2 B3
  generalize w2.heap.size = p at *
  generalize w3.heap.size = q at *
  generalize w3.alloc _ = W at *
  have BEL := Lib.hid bel
  clear bel
  have L1 := fun d os o => A1.regrown d os o
  have L2 := fun d os o => A2.regrown d os o
  have m1 := fun d os => Lib.hid (Calls.regrown_of (M1 (Sort.grow (redrawn W d) os)).out)
  have m2 := fun d os => Lib.hid (Calls.regrown_of (M2 (Sort.grow (redrawn W d) os)).out)
  refine wp_region_quiet_below (by kernel_rfl) (by kernel_rfl) ?_
  repeat (quiet_step (first | exact (m1 _ _).out | exact (m2 _ _).out))
  refine wpQuiet_nil ?_
  intro W' hw'
  have bel2 := regrown_below hw'
  clear m1 m2 L1 L2 hw'
  have A1 := A1.below bel2 A1.lt
  have A2 := A2.below bel2 A2.lt
  have BEL2 := Lib.hid (BEL.out.trans (bel2.mono BEL.out.size))
  clear BEL bel2
  have L1 := fun d os o => A1.regrown d os o
  have L2 := fun d os o => A2.regrown d os o
  have m3 := fun dd os => Lib.hid (Calls.regrown_of (compare_calls id r c st kd n x y d id' r' c' st' kd' n' x' y' d' (Sort.grow (redrawn W' dd) os)))
  have m4 := fun dd os => Lib.hid (Calls.regrown_of (refCompare_calls id r c st kd n x y d id' r' c' st' kd' n' x' y' d' (Sort.grow (redrawn W' dd) os)))
  have m5 := fun dd os => Lib.hid (Calls.regrown_of (same_calls id r c st kd n x y d id' r' c' st' kd' n' x' y' d' (Sort.grow (redrawn W' dd) os)))
  have m6 := fun dd os => Lib.hid (Calls.regrown_of (refSame_calls id r c st kd n x y d id' r' c' st' kd' n' x' y' d' (Sort.grow (redrawn W' dd) os)))
  go_wp2_with fail
  refine wp_region_quiet_below (by kernel_rfl) (by kernel_rfl) ?_
  repeat (quiet_step (first | exact (m3 _ _).out | exact (m4 _ _).out | exact (m5 _ _).out | exact (m6 _ _).out))
  refine wpQuiet_nil ?_
  intro W2 hw'
  have bel2 := regrown_below hw'
  clear hw'
  go_wp2
  go_ret
  exact ⟨rfl, BEL2.out.trans (bel2.mono BEL2.out.size)⟩

end Go.Proofs.Ytekmndboajghhaa
