/- 'EvalPlain' returns true, whatever it is given: the walk. -/
import Derived.Test.YtgfepbcolcmdgaaEvalUp
import Derived.Test.YtgfepbcolcmdgaaSize
import Derived.Test.YtgfepbcolcmdgaaItemQ
import Derived.Test.YtgfepbcolcmdgaaConv
import Derived.Deep.RegionHeld3
namespace Go.Proofs.Ytgfepbcolcmdgaa
open Go.RowKit

theorem hasN_calls (i : It) (r c st : Int) (d : Bool) (hid : i.id.size ≤ maxLen) (p : Pr) (v : Value) (w : World) (h : LP w (nodeN p) v) :
    Calls Try.prog 9 #[.agg #[.int .i64 10, .string ⟨#[]⟩, .int .i64 0, .complex .f64 0 0, v], itV i r c st d] w fun e w' => e = .returned (.bool (!p.hasB i)) ∧ Below w.heap.size w w' := by
  have h1 := has_calls i r c st d hid (nodeN p) v w h
  rw [show Pr.hasB i (nodeN p) = !p.hasB i by simp [nodeN, Pr.hasB, Pr.hasNot]] at h1
  exact h1

set_option maxRecDepth 100000 in
set_option maxHeartbeats 4000000 in
theorem evalPlain_calls (p : Pr) (k : Value) (id : ByteArray) (r c st : Int) (kd : ByteArray) (n : Int) (x y : Nat) (d : Bool) (w : World) (hL : LT w p k) (hid : id.size ≤ maxLen) :
    Calls Try.prog 4 #[.agg #[.int .i64 p.op, .string p.text, .int .i64 p.n, .float .f64 p.x, .float .f64 p.y, k], rowV id r c st kd n x y d] w fun e w' => e = .returned (.bool true) ∧ Below w.heap.size w w' := by
  obtain ⟨op1, cp1, rfl⟩ := lies_val hL
  have U := fun w => Lib.hid (up4_calls w)
  have OX := Lib.hid ((Own.new w #[.int .i64 p.op, .string p.text, .int .i64 p.n, .float .f64 p.x, .float .f64 p.y, (.slice op1 p.kids.length cp1)] 25).alloc (.cells #[.string id, .int .i64 r, .int .i64 c, .int .i64 st, .string kd, .int .i64 n, .float .f64 x, .float .f64 y, .bool d] 27))
  have OY := Lib.hid (Own.newAt (w.alloc (.cells #[.int .i64 p.op, .string p.text, .int .i64 p.n, .float .f64 p.x, .float .f64 p.y, (.slice op1 p.kids.length cp1)] 25)) #[.string id, .int .i64 r, .int .i64 c, .int .i64 st, .string kd, .int .i64 n, .float .f64 x, .float .f64 y, .bool d] 27 (b := w.heap.size + 1) (by simp))
  have LX := Lib.hid ((hL.atAlloc (.cells #[.int .i64 p.op, .string p.text, .int .i64 p.n, .float .f64 p.x, .float .f64 p.y, (.slice op1 p.kids.length cp1)] 25)).atAlloc (.cells #[.string id, .int .i64 r, .int .i64 c, .int .i64 st, .string kd, .int .i64 n, .float .f64 x, .float .f64 y, .bool d] 27))
  have BEL := Lib.hid ((((Below.refl w.heap.size w).alloc (Nat.le_refl _) (.cells #[.int .i64 p.op, .string p.text, .int .i64 p.n, .float .f64 p.x, .float .f64 p.y, (.slice op1 p.kids.length cp1)] 25)).alloc (by simp) (.cells #[.string id, .int .i64 r, .int .i64 c, .int .i64 st, .string kd, .int .i64 n, .float .f64 x, .float .f64 y, .bool d] 27)))
  clear hL
  go_enter Try.func4, Try.ntmps4
  go_wp2_with fail
  refine (U _).out.mono ?_; rintro e w1 ⟨rfl, hb⟩
  replace OX := Lib.hid (OX.out.later hb)
  replace OY := Lib.hid (OY.out.later hb)
  replace LX := Lib.hid (LX.out.later hb (Nat.le_refl _))
  replace BEL := Lib.hid (BEL.out.trans (hb.mono BEL.out.size))
  clear hb
  clear U
  have lOX := OX.out.cell
  have zOX := OX.out.lt
  have lOY := OY.out.cell
  have zOY := OY.out.lt
  go_wp2_with fail
  refine (small_calls p (.slice op1 p.kids.length cp1) _ LX.out).mono ?_; rintro e w2 ⟨rfl, hb⟩
  clear lOX zOX lOY zOY
  replace OX := Lib.hid (OX.out.later hb)
  replace OY := Lib.hid (OY.out.later hb)
  replace LX := Lib.hid (LX.out.later hb (Nat.le_refl _))
  replace BEL := Lib.hid (BEL.out.trans (hb.mono BEL.out.size))
  clear hb
  by_cases h1 : p.size ≤ 60
  case neg =>
    rw [if_neg h1]
    go_wp2_with fail
    go_ret
    exact ⟨rfl, BEL.out⟩
  rw [if_pos h1]
  have lOX := OX.out.cell
  have zOX := OX.out.lt
  have lOY := OY.out.cell
  have zOY := OY.out.lt
  go_wp2_with fail
  refine (conv_calls p (.slice op1 p.kids.length cp1) _ LX.out h1).mono ?_
  rintro e w3 ⟨va, rfl, hla, hb⟩
  obtain ⟨oa, ca, rfl⟩ := lies_val hla
  have LA := Lib.hid (hla.mono (S' := fun b => b < w3.heap.size) (fun _ _ _ => rfl) (fun _ h => h.2))
  clear hla
  clear lOX zOX lOY zOY
  replace OY := Lib.hid (OY.out.later hb)
  replace BEL := Lib.hid (BEL.out.trans (hb.mono BEL.out.size))
  clear hb
  clear OX LX
  have lOY := OY.out.cell
  have zOY := OY.out.lt
  go_wp2_with fail
  clear lOY zOY
  replace OY := Lib.hid (OY.out.alloc (.cells #[.int .i64 p.op, .string p.text, .int .i64 p.n, .complex .f64 p.x p.y, .slice oa p.kids.length ca] 33))
  replace LA := Lib.hid (LA.out.atAlloc (.cells #[.int .i64 p.op, .string p.text, .int .i64 p.n, .complex .f64 p.x p.y, .slice oa p.kids.length ca] 33))
  have OA := Lib.hid (Own.new w3 #[.int .i64 p.op, .string p.text, .int .i64 p.n, .complex .f64 p.x p.y, .slice oa p.kids.length ca] 33)
  replace BEL := Lib.hid (BEL.out.alloc BEL.out.size (.cells #[.int .i64 p.op, .string p.text, .int .i64 p.n, .complex .f64 p.x p.y, .slice oa p.kids.length ca] 33))
  generalize w3.heap.size = A at *
  generalize w3.alloc (.cells #[.int .i64 p.op, .string p.text, .int .i64 p.n, .complex .f64 p.x p.y, .slice oa p.kids.length ca] 33) = w3' at *
  have lOY := OY.out.cell
  have zOY := OY.out.lt
  refine (item_calls id r c st kd n x y d _).mono ?_; rintro e w4 ⟨rfl, hb⟩
  clear lOY zOY
  replace OA := Lib.hid (OA.out.later hb)
  replace LA := Lib.hid (LA.out.later hb (Nat.le_refl _))
  replace BEL := Lib.hid (BEL.out.trans (hb.mono BEL.out.size))
  clear hb
  clear OY
  have lOA := OA.out.cell
  have zOA := OA.out.lt
  go_wp2_with fail
  clear lOA zOA
  replace OA := Lib.hid (OA.out.alloc (.cells #[.string id, .int .i64 r, .int .i64 c, .int .i64 st, .string kd, .int .i64 n, .complex .f64 x y, .bool d] 38))
  replace LA := Lib.hid (LA.out.atAlloc (.cells #[.string id, .int .i64 r, .int .i64 c, .int .i64 st, .string kd, .int .i64 n, .complex .f64 x y, .bool d] 38))
  have OI := Lib.hid (Own.new w4 #[.string id, .int .i64 r, .int .i64 c, .int .i64 st, .string kd, .int .i64 n, .complex .f64 x y, .bool d] 38)
  replace BEL := Lib.hid (BEL.out.alloc BEL.out.size (.cells #[.string id, .int .i64 r, .int .i64 c, .int .i64 st, .string kd, .int .i64 n, .complex .f64 x y, .bool d] 38))
  generalize w4.heap.size = I at *
  generalize w4.alloc (.cells #[.string id, .int .i64 r, .int .i64 c, .int .i64 st, .string kd, .int .i64 n, .complex .f64 x y, .bool d] 38) = w4' at *
  generalize w4' = w5 at *
  refine (predMay_calls p (.slice oa p.kids.length ca) _ LA.out).mono ?_; rintro e w6 ⟨rfl, hb⟩
  replace OA := Lib.hid (OA.out.later hb)
  replace OI := Lib.hid (OI.out.later hb)
  replace LA := Lib.hid (LA.out.later hb (Nat.le_refl _))
  replace BEL := Lib.hid (BEL.out.trans (hb.mono BEL.out.size))
  clear hb
  cases hm : p.mayB
  case false =>
    go_wp2_with fail
    go_ret
    exact ⟨rfl, BEL.out⟩
  obtain ⟨h30, hd6, hall⟩ := predMay_parts hm
  obtain ⟨hpl, hqa, hqs, hqd, _⟩ := Pr.plainC_good p hall
  have hqm : p.plainC.mayB = true := fits_true.2 ⟨by omega, by omega, hqa⟩
  have hfx := Pr.plainC_fix p.plainC hpl hqa
  have hhas := Pr.plainC_has ⟨id, kd, n, x, y⟩ p hall
  have PP := Lib.hid (plain_calls p (.slice oa p.kids.length ca) w6 LA.out h1 hall)
  generalize p.plainC = q at *
  have lOA := OA.out.cell
  have zOA := OA.out.lt
  go_wp2_with fail
  refine PP.out.mono ?_
  rintro e w7 ⟨vq, rfl, hlq, hb⟩
  obtain ⟨oq, cq, rfl⟩ := lies_val hlq
  have LQ := Lib.hid (hlq.mono (S' := fun b => b < w7.heap.size) (fun _ _ _ => rfl) (fun _ h => h.2))
  clear hlq PP
  clear lOA zOA
  replace OA := Lib.hid (OA.out.later hb)
  replace OI := Lib.hid (OI.out.later hb)
  replace LA := Lib.hid (LA.out.later hb (Nat.le_refl _))
  replace BEL := Lib.hid (BEL.out.trans (hb.mono BEL.out.size))
  clear hb
  go_wp2_with fail
  replace OA := Lib.hid (OA.out.alloc (.cells #[.int .i64 q.op, .string q.text, .int .i64 q.n, .complex .f64 q.x q.y, .slice oq q.kids.length cq] 33))
  replace OI := Lib.hid (OI.out.alloc (.cells #[.int .i64 q.op, .string q.text, .int .i64 q.n, .complex .f64 q.x q.y, .slice oq q.kids.length cq] 33))
  replace LA := Lib.hid (LA.out.atAlloc (.cells #[.int .i64 q.op, .string q.text, .int .i64 q.n, .complex .f64 q.x q.y, .slice oq q.kids.length cq] 33))
  replace LQ := Lib.hid (LQ.out.atAlloc (.cells #[.int .i64 q.op, .string q.text, .int .i64 q.n, .complex .f64 q.x q.y, .slice oq q.kids.length cq] 33))
  have OQ := Lib.hid (Own.new w7 #[.int .i64 q.op, .string q.text, .int .i64 q.n, .complex .f64 q.x q.y, .slice oq q.kids.length cq] 33)
  replace BEL := Lib.hid (BEL.out.alloc BEL.out.size (.cells #[.int .i64 q.op, .string q.text, .int .i64 q.n, .complex .f64 q.x q.y, .slice oq q.kids.length cq] 33))
  generalize w7.heap.size = Q at *
  generalize w7.alloc (.cells #[.int .i64 q.op, .string q.text, .int .i64 q.n, .complex .f64 q.x q.y, .slice oq q.kids.length cq] 33) = w7' at *
  generalize w7' = w8 at *
  have hq60 : q.size ≤ 60 := by omega
  have MQ := fun w h => Lib.hid (predMay_calls q (.slice oq q.kids.length cq) w h)
  have SQ := fun w h => Lib.hid (size_calls q (.slice oq q.kids.length cq) w h (by omega))
  have SP := fun w h => Lib.hid (size_calls p (.slice oa p.kids.length ca) w h (by omega))
  have DQ := fun w h => Lib.hid (depth_calls q (.slice oq q.kids.length cq) w h (by omega))
  have DP := fun w h => Lib.hid (depth_calls p (.slice oa p.kids.length ca) w h (by omega))
  have PQ := fun w h => Lib.hid (plain_calls q (.slice oq q.kids.length cq) w h hq60 hqa)
  have SM := fun v w h h' => Lib.hid (same_any q.plainC q v (.slice oq q.kids.length cq) w h h')
  rw [hqm] at MQ
  rw [hfx] at SM
  generalize q.plainC = q3 at *
  generalize q.size = zq at *
  generalize p.size = zp at *
  generalize q.depth = dq at *
  generalize p.depth = dp at *
  have s1 : decide ((zp : Int) < (zq : Int)) = false := by simp; omega
  have s2 : decide ((dp : Int) < (dq : Int)) = false := by simp; omega
  have s3 : decide (zp < zq) = false := by simp; omega
  have s4 : decide (dp < dq) = false := by simp; omega
  clear hfx hqm
  replace OA := Lib.hid OA.out.drew
  replace OQ := Lib.hid OQ.out.drew
  replace OI := Lib.hid OI.out.drew
  replace LA := Lib.hid LA.out.atDrew
  replace LQ := Lib.hid LQ.out.atDrew
  replace BEL := Lib.hid BEL.out.drew
  go_region_held3 (fun w' => (∀ o, w'.cell? ⟨A, o, none⟩ = #[.int .i64 p.op, .string p.text, .int .i64 p.n, .complex .f64 p.x p.y, .slice oa p.kids.length ca][o]?) ∧ ∀ o, w'.cell? ⟨Q, o, none⟩ = #[.int .i64 q.op, .string q.text, .int .i64 q.n, .complex .f64 q.x q.y, .slice oq q.kids.length cq][o]?) (exact ⟨OA.out.cell, OQ.out.cell⟩)
    (first
      | (go_simp; go_at_call 15; refine (MQ _ LQ.out).out.mono ?_; rintro e wa ⟨rfl, hb⟩; replace OA := Lib.hid (OA.out.later hb); replace OQ := Lib.hid (OQ.out.later hb); replace OI := Lib.hid (OI.out.later hb); replace LA := Lib.hid (LA.out.later hb (Nat.le_refl _)); replace LQ := Lib.hid (LQ.out.later hb (Nat.le_refl _)); replace BEL := Lib.hid (BEL.out.trans (hb.mono BEL.out.size)); clear hb)
      | (go_simp; go_at_call_of 16 (Pr.op q); refine (SQ _ LQ.out).out.mono ?_; rintro e wb ⟨rfl, hb⟩; replace OA := Lib.hid (OA.out.later hb); replace OQ := Lib.hid (OQ.out.later hb); replace OI := Lib.hid (OI.out.later hb); replace LA := Lib.hid (LA.out.later hb (Nat.le_refl _)); replace LQ := Lib.hid (LQ.out.later hb (Nat.le_refl _)); replace BEL := Lib.hid (BEL.out.trans (hb.mono BEL.out.size)); clear hb)
      | (go_simp; go_at_call_of 16 (Pr.op p); refine (SP _ LA.out).out.mono ?_; rintro e wc ⟨rfl, hb⟩; replace OA := Lib.hid (OA.out.later hb); replace OQ := Lib.hid (OQ.out.later hb); replace OI := Lib.hid (OI.out.later hb); replace LA := Lib.hid (LA.out.later hb (Nat.le_refl _)); replace LQ := Lib.hid (LQ.out.later hb (Nat.le_refl _)); replace BEL := Lib.hid (BEL.out.trans (hb.mono BEL.out.size)); clear hb)
      | (go_simp; go_at_call_of 17 (Pr.op q); refine (DQ _ LQ.out).out.mono ?_; rintro e wd ⟨rfl, hb⟩; replace OA := Lib.hid (OA.out.later hb); replace OQ := Lib.hid (OQ.out.later hb); replace OI := Lib.hid (OI.out.later hb); replace LA := Lib.hid (LA.out.later hb (Nat.le_refl _)); replace LQ := Lib.hid (LQ.out.later hb (Nat.le_refl _)); replace BEL := Lib.hid (BEL.out.trans (hb.mono BEL.out.size)); clear hb)
      | (go_simp; go_at_call_of 17 (Pr.op p); refine (DP _ LA.out).out.mono ?_; rintro e we ⟨rfl, hb⟩; replace OA := Lib.hid (OA.out.later hb); replace OQ := Lib.hid (OQ.out.later hb); replace OI := Lib.hid (OI.out.later hb); replace LA := Lib.hid (LA.out.later hb (Nat.le_refl _)); replace LQ := Lib.hid (LQ.out.later hb (Nat.le_refl _)); replace BEL := Lib.hid (BEL.out.trans (hb.mono BEL.out.size)); clear hb)
      | (go_simp; go_at_call 13; refine (PQ _ LQ.out).out.mono ?_; rintro e wf ⟨v3, rfl, hl3, hb⟩; obtain ⟨o3, c3, rfl⟩ := lies_val hl3; have L3 := Lib.hid (hl3.mono (S' := fun b => b < wf.heap.size) (fun _ _ _ => rfl) (fun _ h => h.2)); replace OA := Lib.hid (OA.out.later hb); replace OQ := Lib.hid (OQ.out.later hb); replace OI := Lib.hid (OI.out.later hb); replace LA := Lib.hid (LA.out.later hb (Nat.le_refl _)); replace LQ := Lib.hid (LQ.out.later hb (Nat.le_refl _)); replace BEL := Lib.hid (BEL.out.trans (hb.mono BEL.out.size)); clear hb; clear hl3)
      | (go_simp; go_at_call 18; refine (SM _ _ L3.out LQ.out).out.mono ?_; rintro e wg ⟨rfl, hb⟩; replace OA := Lib.hid (OA.out.later hb); replace OQ := Lib.hid (OQ.out.later hb); replace OI := Lib.hid (OI.out.later hb); replace LA := Lib.hid (LA.out.later hb (Nat.le_refl _)); replace LQ := Lib.hid (LQ.out.later hb (Nat.le_refl _)); replace BEL := Lib.hid (BEL.out.trans (hb.mono BEL.out.size)); clear hb))
  clear MQ SQ SP DQ DP PQ SM s1 s2 s3 s4
  rename World => W9
  have HF := Lib.hid (And.intro hhas hid)
  have lOA := OA.out.cell
  have zOA := OA.out.lt
  go_wp2_with fail
  clear lOA zOA
  replace OA := Lib.hid (OA.out.alloc (.cells #[.int .i64 p.op, .string p.text, .int .i64 p.n, .complex .f64 p.x p.y, .slice oa p.kids.length ca] 33))
  replace OQ := Lib.hid (OQ.out.alloc (.cells #[.int .i64 p.op, .string p.text, .int .i64 p.n, .complex .f64 p.x p.y, .slice oa p.kids.length ca] 33))
  replace OI := Lib.hid (OI.out.alloc (.cells #[.int .i64 p.op, .string p.text, .int .i64 p.n, .complex .f64 p.x p.y, .slice oa p.kids.length ca] 33))
  replace LA := Lib.hid (LA.out.atAlloc (.cells #[.int .i64 p.op, .string p.text, .int .i64 p.n, .complex .f64 p.x p.y, .slice oa p.kids.length ca] 33))
  replace LQ := Lib.hid (LQ.out.atAlloc (.cells #[.int .i64 p.op, .string p.text, .int .i64 p.n, .complex .f64 p.x p.y, .slice oa p.kids.length ca] 33))
  have ON := Lib.hid (Own.new W9 #[.int .i64 p.op, .string p.text, .int .i64 p.n, .complex .f64 p.x p.y, .slice oa p.kids.length ca] 33)
  replace BEL := Lib.hid (BEL.out.alloc BEL.out.size (.cells #[.int .i64 p.op, .string p.text, .int .i64 p.n, .complex .f64 p.x p.y, .slice oa p.kids.length ca] 33))
  have hz9 : (W9.alloc (.cells #[.int .i64 p.op, .string p.text, .int .i64 p.n, .complex .f64 p.x p.y, .slice oa p.kids.length ca] 33)).heap.size = W9.heap.size + 1 := by simp
  generalize W9.heap.size = N at *
  generalize W9.alloc (.cells #[.int .i64 p.op, .string p.text, .int .i64 p.n, .complex .f64 p.x p.y, .slice oa p.kids.length ca] 33) = W9' at *
  replace OA := Lib.hid (OA.out.alloc (.cells #[.int .i64 10, .string ⟨#[]⟩, .int .i64 0, .complex .f64 0 0, .slice (some ⟨N, 0, none⟩) 1 1] 33))
  replace OQ := Lib.hid (OQ.out.alloc (.cells #[.int .i64 10, .string ⟨#[]⟩, .int .i64 0, .complex .f64 0 0, .slice (some ⟨N, 0, none⟩) 1 1] 33))
  replace OI := Lib.hid (OI.out.alloc (.cells #[.int .i64 10, .string ⟨#[]⟩, .int .i64 0, .complex .f64 0 0, .slice (some ⟨N, 0, none⟩) 1 1] 33))
  replace ON := Lib.hid (ON.out.alloc (.cells #[.int .i64 10, .string ⟨#[]⟩, .int .i64 0, .complex .f64 0 0, .slice (some ⟨N, 0, none⟩) 1 1] 33))
  replace LA := Lib.hid (LA.out.atAlloc (.cells #[.int .i64 10, .string ⟨#[]⟩, .int .i64 0, .complex .f64 0 0, .slice (some ⟨N, 0, none⟩) 1 1] 33))
  replace LQ := Lib.hid (LQ.out.atAlloc (.cells #[.int .i64 10, .string ⟨#[]⟩, .int .i64 0, .complex .f64 0 0, .slice (some ⟨N, 0, none⟩) 1 1] 33))
  have OM := Lib.hid (Own.new W9' #[.int .i64 10, .string ⟨#[]⟩, .int .i64 0, .complex .f64 0 0, .slice (some ⟨N, 0, none⟩) 1 1] 33)
  replace BEL := Lib.hid (BEL.out.alloc BEL.out.size (.cells #[.int .i64 10, .string ⟨#[]⟩, .int .i64 0, .complex .f64 0 0, .slice (some ⟨N, 0, none⟩) 1 1] 33))
  rw [hz9] at OM
  generalize W9'.alloc (.cells #[.int .i64 10, .string ⟨#[]⟩, .int .i64 0, .complex .f64 0 0, .slice (some ⟨N, 0, none⟩) 1 1] 33) = W10 at *
  have LN := Lib.hid (lies_one_kid ON.out LA.out 10)
  have LOA := fun dd os o => OA.out.has.regrown dd os o
  have LOQ := fun dd os o => OQ.out.has.regrown dd os o
  have LOI := fun dd os o => OI.out.has.regrown dd os o
  have LOM := fun dd os o => OM.out.has.regrown dd os o
  have m1 := fun dd os => Lib.hid (Calls.regrown_of (has_calls ⟨id, kd, n, x, y⟩ r c st d hid q (.slice oq q.kids.length cq) (Sort.grow (redrawn W10 dd) os) (LQ.out.later (below_regrown _ _ _) (Nat.le_refl _))))
  have m2 := fun dd os => Lib.hid (Calls.regrown_of (has_calls ⟨id, kd, n, x, y⟩ r c st d hid p (.slice oa p.kids.length ca) (Sort.grow (redrawn W10 dd) os) (LA.out.later (below_regrown _ _ _) (Nat.le_refl _))))
  have m3 := fun dd os => Lib.hid (Calls.regrown_of (hasN_calls ⟨id, kd, n, x, y⟩ r c st d hid p (.slice (some ⟨N, 0, none⟩) 1 1) (Sort.grow (redrawn W10 dd) os) (LN.out.later (below_regrown _ _ _) (Nat.le_refl _))))
  rw [hhas] at m1
  clear hhas
  generalize Pr.hasB ⟨id, kd, n, x, y⟩ p = hp at *
  cases hp
  all_goals
    simp only [Bool.not_false, Bool.not_true] at m3
    refine wp_region_quiet_below (by kernel_rfl) (by kernel_rfl) ?_
    repeat (first | go_big_quiet_step ((first | (with_reducible exact (m1 _ _).out) | (with_reducible exact (m2 _ _).out) | (with_reducible exact (m3 _ _).out))) | quiet_step (first | (with_reducible exact (m1 _ _).out) | (with_reducible exact (m2 _ _).out) | (with_reducible exact (m3 _ _).out)))
    refine wpQuiet_nil ?_
    intro W11 hw'
    have hb := regrown_below hw'
    clear hw' m1 m2 m3
    clear LOA LOQ LOI LOM
    replace BEL := Lib.hid (BEL.out.trans (hb.mono BEL.out.size))
    clear hb
    go_wp2_with fail
    go_ret
    exact ⟨rfl, BEL.out⟩

end Go.Proofs.Ytgfepbcolcmdgaa
