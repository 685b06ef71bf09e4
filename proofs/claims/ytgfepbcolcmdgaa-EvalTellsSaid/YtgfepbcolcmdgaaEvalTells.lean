/- 'EvalTells' returns true, whatever it is given: the walk. -/
import Derived.Test.YtgfepbcolcmdgaaEvalUp
import Derived.Test.YtgfepbcolcmdgaaRefHas
import Derived.Test.YtgfepbcolcmdgaaRefPlain
import Derived.Test.YtgfepbcolcmdgaaItemQ
import Derived.Test.YtgfepbcolcmdgaaConv
import Derived.Deep.RegionHeld3
namespace Go.Proofs.Ytgfepbcolcmdgaa
open Go.RowKit

set_option maxRecDepth 100000 in
set_option maxHeartbeats 4000000 in
theorem evalTells_calls (p : Pr) (k : Value) (id : ByteArray) (r c st : Int) (kd : ByteArray) (n : Int) (x y : Nat) (d : Bool) (w : World) (hL : LT w p k) (hid : id.size ≤ maxLen) :
    Calls Try.prog 3 #[.agg #[.int .i64 p.op, .string p.text, .int .i64 p.n, .float .f64 p.x, .float .f64 p.y, k], rowV id r c st kd n x y d] w fun e w' => e = .returned (.bool true) ∧ Below w.heap.size w w' := by
  obtain ⟨op1, cp1, rfl⟩ := lies_val hL
  have U := fun w => Lib.hid (up4_calls w)
  have OX := Lib.hid ((Own.new w #[.int .i64 p.op, .string p.text, .int .i64 p.n, .float .f64 p.x, .float .f64 p.y, (.slice op1 p.kids.length cp1)] 25).alloc (.cells #[.string id, .int .i64 r, .int .i64 c, .int .i64 st, .string kd, .int .i64 n, .float .f64 x, .float .f64 y, .bool d] 27))
  have OY := Lib.hid (Own.newAt (w.alloc (.cells #[.int .i64 p.op, .string p.text, .int .i64 p.n, .float .f64 p.x, .float .f64 p.y, (.slice op1 p.kids.length cp1)] 25)) #[.string id, .int .i64 r, .int .i64 c, .int .i64 st, .string kd, .int .i64 n, .float .f64 x, .float .f64 y, .bool d] 27 (b := w.heap.size + 1) (by simp))
  have LX := Lib.hid ((hL.atAlloc (.cells #[.int .i64 p.op, .string p.text, .int .i64 p.n, .float .f64 p.x, .float .f64 p.y, (.slice op1 p.kids.length cp1)] 25)).atAlloc (.cells #[.string id, .int .i64 r, .int .i64 c, .int .i64 st, .string kd, .int .i64 n, .float .f64 x, .float .f64 y, .bool d] 27))
  have BEL := Lib.hid ((((Below.refl w.heap.size w).alloc (Nat.le_refl _) (.cells #[.int .i64 p.op, .string p.text, .int .i64 p.n, .float .f64 p.x, .float .f64 p.y, (.slice op1 p.kids.length cp1)] 25)).alloc (by simp) (.cells #[.string id, .int .i64 r, .int .i64 c, .int .i64 st, .string kd, .int .i64 n, .float .f64 x, .float .f64 y, .bool d] 27)))
  clear hL
  go_enter Try.func3, Try.ntmps3
  go_wp2_with fail
  refine (U _).out.mono ?_; rintro e w1 ⟨rfl, hb⟩
  replace OX := Lib.hid (OX.out.later hb)
  replace OY := Lib.hid (OY.out.later hb)
  replace LX := Lib.hid (LX.out.later hb (Nat.le_refl _))
  replace BEL := Lib.hid (BEL.out.trans (hb.mono BEL.out.size))
  clear hb
  clear U
  have lOX := OX.out.cell
  have zOX := OX.out.lt
  have lOY := OY.out.cell
  have zOY := OY.out.lt
  go_wp2_with fail
  refine (small_calls p (.slice op1 p.kids.length cp1) _ LX.out).mono ?_; rintro e w2 ⟨rfl, hb⟩
  clear lOX zOX lOY zOY
  replace OX := Lib.hid (OX.out.later hb)
  replace OY := Lib.hid (OY.out.later hb)
  replace LX := Lib.hid (LX.out.later hb (Nat.le_refl _))
  replace BEL := Lib.hid (BEL.out.trans (hb.mono BEL.out.size))
  clear hb
  by_cases h1 : p.size ≤ 60
  case neg =>
    rw [if_neg h1]
    go_wp2_with fail
    go_ret
    exact ⟨rfl, BEL.out⟩
  rw [if_pos h1]
  have lOX := OX.out.cell
  have zOX := OX.out.lt
  have lOY := OY.out.cell
  have zOY := OY.out.lt
  go_wp2_with fail
  refine (conv_calls p (.slice op1 p.kids.length cp1) _ LX.out h1).mono ?_
  rintro e w3 ⟨va, rfl, hla, hb⟩
  obtain ⟨oa, ca, rfl⟩ := lies_val hla
  have LA := Lib.hid (hla.mono (S' := fun b => b < w3.heap.size) (fun _ _ _ => rfl) (fun _ h => h.2))
  clear hla
  clear lOX zOX lOY zOY
  replace OY := Lib.hid (OY.out.later hb)
  replace BEL := Lib.hid (BEL.out.trans (hb.mono BEL.out.size))
  clear hb
  clear OX LX
  have lOY := OY.out.cell
  have zOY := OY.out.lt
  go_wp2_with fail
  clear lOY zOY
  replace OY := Lib.hid (OY.out.alloc (.cells #[.int .i64 p.op, .string p.text, .int .i64 p.n, .complex .f64 p.x p.y, .slice oa p.kids.length ca] 33))
  replace LA := Lib.hid (LA.out.atAlloc (.cells #[.int .i64 p.op, .string p.text, .int .i64 p.n, .complex .f64 p.x p.y, .slice oa p.kids.length ca] 33))
  have OA := Lib.hid (Own.new w3 #[.int .i64 p.op, .string p.text, .int .i64 p.n, .complex .f64 p.x p.y, .slice oa p.kids.length ca] 33)
  replace BEL := Lib.hid (BEL.out.alloc BEL.out.size (.cells #[.int .i64 p.op, .string p.text, .int .i64 p.n, .complex .f64 p.x p.y, .slice oa p.kids.length ca] 33))
  generalize w3.heap.size = A at *
  generalize w3.alloc (.cells #[.int .i64 p.op, .string p.text, .int .i64 p.n, .complex .f64 p.x p.y, .slice oa p.kids.length ca] 33) = w3' at *
  have lOY := OY.out.cell
  have zOY := OY.out.lt
  refine (item_calls id r c st kd n x y d _).mono ?_; rintro e w4 ⟨rfl, hb⟩
  clear lOY zOY
  replace OA := Lib.hid (OA.out.later hb)
  replace LA := Lib.hid (LA.out.later hb (Nat.le_refl _))
  replace BEL := Lib.hid (BEL.out.trans (hb.mono BEL.out.size))
  clear hb
  clear OY
  go_wp2_with fail
  replace OA := Lib.hid (OA.out.alloc (.cells #[.string id, .int .i64 r, .int .i64 c, .int .i64 st, .string kd, .int .i64 n, .complex .f64 x y, .bool d] 38))
  replace LA := Lib.hid (LA.out.atAlloc (.cells #[.string id, .int .i64 r, .int .i64 c, .int .i64 st, .string kd, .int .i64 n, .complex .f64 x y, .bool d] 38))
  have OI := Lib.hid (Own.new w4 #[.string id, .int .i64 r, .int .i64 c, .int .i64 st, .string kd, .int .i64 n, .complex .f64 x y, .bool d] 38)
  replace BEL := Lib.hid (BEL.out.alloc BEL.out.size (.cells #[.string id, .int .i64 r, .int .i64 c, .int .i64 st, .string kd, .int .i64 n, .complex .f64 x y, .bool d] 38))
  generalize w4.heap.size = I at *
  generalize w4.alloc (.cells #[.string id, .int .i64 r, .int .i64 c, .int .i64 st, .string kd, .int .i64 n, .complex .f64 x y, .bool d] 38) = w4' at *
  generalize w4' = w5 at *
  have LOA := fun dd os o => OA.out.has.regrown dd os o
  have LOI := fun dd os o => OI.out.has.regrown dd os o
  have m1 := fun dd os => Lib.hid (Calls.regrown_of (has_calls ⟨id, kd, n, x, y⟩ r c st d hid p (.slice oa p.kids.length ca) (Sort.grow (redrawn w5 dd) os) (LA.out.later (below_regrown _ _ _) (Nat.le_refl _))))
  have m2 := fun dd os => Lib.hid (Calls.regrown_of (refHas_calls ⟨id, kd, n, x, y⟩ r c st d hid p (.slice oa p.kids.length ca) (Sort.grow (redrawn w5 dd) os) (LA.out.later (below_regrown _ _ _) (Nat.le_refl _)) (by omega)))
  generalize Pr.hasB ⟨id, kd, n, x, y⟩ p = hp at *
  refine wp_region_quiet_below (by kernel_rfl) (by kernel_rfl) ?_
  repeat (first | go_big_quiet_step ((first | (with_reducible exact (m1 _ _).out) | (with_reducible exact (m2 _ _).out))) | quiet_step (first | (with_reducible exact (m1 _ _).out) | (with_reducible exact (m2 _ _).out)))
  refine wpQuiet_nil ?_
  intro w6 hw'
  have hb := regrown_below hw'
  clear hw' m1 m2
  clear LOA LOI
  replace OA := Lib.hid (OA.out.later hb)
  replace OI := Lib.hid (OI.out.later hb)
  replace LA := Lib.hid (LA.out.later hb (Nat.le_refl _))
  replace BEL := Lib.hid (BEL.out.trans (hb.mono BEL.out.size))
  clear hb
  have lOA := OA.out.cell
  have zOA := OA.out.lt
  go_wp2_with fail
  refine (refMay3_calls p (.slice oa p.kids.length ca) _ LA.out (by omega)).mono ?_; rintro e w7 ⟨rfl, hb⟩
  clear lOA zOA
  replace OA := Lib.hid (OA.out.later hb)
  replace LA := Lib.hid (LA.out.later hb (Nat.le_refl _))
  replace BEL := Lib.hid (BEL.out.trans (hb.mono BEL.out.size))
  clear hb
  cases hm : p.mayB
  case false =>
    go_wp2_with fail
    go_ret
    exact ⟨rfl, BEL.out⟩
  obtain ⟨h30, _, hall⟩ := predMay_parts hm
  have hsm := (Pr.plainC_good p hall).2.2.2.2
  have SM := fun v v' w h h' => Lib.hid (refSame_any p.plainC p.plain v v' w h h')
  rw [hsm] at SM
  have PP := fun w h => Lib.hid (plain_calls p (.slice oa p.kids.length ca) w h h1 hall)
  have RP := fun w h => Lib.hid (refPlain_calls p (.slice oa p.kids.length ca) w h h1 hall)
  generalize p.plainC = q1 at *
  generalize p.plain = q2 at *
  clear hsm hall
  go_wp2_with fail
  replace OA := Lib.hid OA.out.drew
  replace LA := Lib.hid LA.out.atDrew
  replace BEL := Lib.hid BEL.out.drew
  go_region_held3 (fun w' => ∀ o, w'.cell? ⟨A, o, none⟩ = #[.int .i64 p.op, .string p.text, .int .i64 p.n, .complex .f64 p.x p.y, .slice oa p.kids.length ca][o]?) (exact OA.out.cell)
    (first
      | (go_simp; go_at_call 13; refine (PP _ LA.out).out.mono ?_; rintro e wa ⟨v1, rfl, hl1, hb⟩; obtain ⟨o1, c1, rfl⟩ := lies_val hl1; have L1 := Lib.hid (hl1.mono (S' := fun b => b < wa.heap.size) (fun _ _ _ => rfl) (fun _ h => h.2)); replace OA := Lib.hid (OA.out.later hb); replace LA := Lib.hid (LA.out.later hb (Nat.le_refl _)); replace BEL := Lib.hid (BEL.out.trans (hb.mono BEL.out.size)); clear hb hl1)
      | (go_simp; go_at_call 14; refine (RP _ LA.out).out.mono ?_; rintro e wb ⟨v2, rfl, hl2, hb⟩; obtain ⟨o2, c2, rfl⟩ := lies_val hl2; have L2 := Lib.hid (hl2.mono (S' := fun b => b < wb.heap.size) (fun _ _ _ => rfl) (fun _ h => h.2)); replace OA := Lib.hid (OA.out.later hb); replace L1 := Lib.hid (L1.out.later hb (Nat.le_refl _)); replace BEL := Lib.hid (BEL.out.trans (hb.mono BEL.out.size)); clear hb hl2)
      | (go_simp; go_at_call 12; refine (SM _ _ _ L1.out L2.out).out.mono ?_; rintro e wc ⟨rfl, hb⟩; replace OA := Lib.hid (OA.out.later hb); replace BEL := Lib.hid (BEL.out.trans (hb.mono BEL.out.size)); clear hb))
  all_goals
    go_wp2_with fail
    go_ret
    exact ⟨rfl, BEL.out⟩

end Go.Proofs.Ytgfepbcolcmdgaa
