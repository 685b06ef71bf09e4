/- Joined: RcvL, FreS, Rcv, LocM2. -/
import Derived.Test.YtjkcooakddlppaaGreatJ33
import Derived.Test.YtjkcooakddlppaaGreatJ36
import Derived.Test.YtjkcooakddlppaaGreatJ34
import Derived.Test.YtjkcooakddlppaaGreatJ21
import Derived.Test.YtjkcooakddlppaaGreatJ23
import Derived.Test.YtjkcooakddlppaaGreatJ30
import Derived.Test.YtjkcooakddlppaaGreatJ32
import Derived.Test.YtjkcooakddlppaaGreatJ13
/- Both of two lists without a common Id: how many. No walk. -/
namespace Go.Proofs.YtjkcooakddlppaaGreat
set_option linter.unusedVariables false
set_option linter.unusedSimpArgs false
set_option maxRecDepth 100000
open Go Go.RowKit
theorem putI_new {x : Itm} : ∀ {l : List Itm}, (∀ i ∈ l, i.id ≠ x.id) → (l.filter (fun i => lsB i.id x.id)).length + (l.filter (fun i => gtB i.id x.id)).length = l.length
  | [], _ => rfl
  | a :: l, h => by
    have ih := putI_new (x := x) (l := l) fun i hi => h i (by simp [hi])
    have hne : (a.id.toList == x.id.toList) = false := by
      rw [beq_eq_false_iff_ne]
      intro e
      exact h a (by simp) (tl_inj e)
    have hg : gtB a.id x.id = !lsB a.id x.id := by unfold gtB lsB; rw [hne, Bool.or_false]
    cases hl : lsB a.id x.id
    · rw [hl] at hg
      simp only [List.filter_cons, hl, hg, Bool.not_false, if_true, List.length_cons, Bool.false_eq_true, if_false]
      omega
    · rw [hl] at hg
      simp only [List.filter_cons, hl, hg, Bool.not_true, if_true, List.length_cons, Bool.false_eq_true, if_false]
      omega
theorem both_len {f : Itm → Itm → Bool} : ∀ (b : List Itm) {a : List Itm}, RiseI b → (∀ i ∈ b, ∀ j ∈ a, j.id ≠ i.id) → (bothI f a b).length = a.length + b.length
  | [], _, _, _ => rfl
  | y :: b, a, hb, hd => by
    have hstep : stepI f a y = putI a y := by
      unfold stepI
      rw [get_none (fun j hj => hd y (by simp) j hj)]
      rfl
    have hlen : (putI a y).length = a.length + 1 := by
      have := putI_new (x := y) (l := a) fun i hi => hd y (by simp) i hi
      unfold putI
      simp only [List.length_append, List.length_cons, List.length_nil]
      omega
    have e : bothI f a (y :: b) = bothI f (putI a y) b := by unfold bothI; rw [List.foldl_cons, hstep]
    rw [e, both_len b (riseI_cons.1 hb).2 (fun i hi j hj => by
      rcases put_mem hj with h | h
      · exact hd i (by simp [hi]) j h
      · rw [h]; exact ls_ne ((riseI_cons.1 hb).1 i hi)), hlen, List.length_cons]
    omega
end Go.Proofs.YtjkcooakddlppaaGreat
/- The code's fresh: a state in new memory. Walked. -/
namespace Go.Proofs.YtjkcooakddlppaaGreat
set_option linter.unusedVariables false
set_option linter.unusedSimpArgs false
set_option maxRecDepth 100000
open Go Go.RowKit
theorem OwnI.sure {w : World} {B : Nat} {l : List Itm} {v : Value} (h : OwnI w B l v) (hok : ∀ i ∈ l, i.id.size ≤ maxLen ∧ i.kd.size ≤ maxLen) : Sure (fun b => b < B) w fun w => Row 8 ic w l v := (h.rowF hok).sure
theorem setArr5 (s : St) (fv sv ov kv v : Value) : setArrN (stA s fv sv ov kv) 1 [.int .i64 s.f.op, .string s.f.text, .int .i64 s.f.n, .complex .f64 s.f.x s.f.y, v] = stA s v sv ov kv := by simp [setArrN]
theorem setArr9 (s : St) (A : Nat → Int) (fv sv ov kv v : Value) : setArrN (stA s fv sv ov kv) 8 (knA A v).toList = stA ⟨s.r, s.f, s.store, s.out, ⟨A, s.k.l⟩, s.count, s.clock, s.epoch⟩ fv sv ov v := by simp [setArrN]
theorem setArr9L (s : St) (A : Nat → Int) (L : List Fr) (fv sv ov kv v : Value) : setArrN (stA s fv sv ov kv) 8 (knA A v).toList = stA ⟨s.r, s.f, s.store, s.out, ⟨A, L⟩, s.count, s.clock, s.epoch⟩ fv sv ov v := by simp [setArrN]
set_option maxRecDepth 100000 in
set_option maxHeartbeats 8000000 in
theorem freState_calls (s : St) (fv sv ov kv : Value) (w : World) (hS : StW w s fv sv ov kv) (hf : s.f.size ≤ 1000) (h1 : s.store.length ≤ 10000) (h2 : s.out.length ≤ 10000) (hl : s.k.l.length ≤ 10000) (hi : (flatI s.k.l).length ≤ 10000) :
    Calls Tryz.prog 37 #[stV s fv sv ov kv] w fun e w' => ∃ fv' sv' ov' kv', e = .returned (stV s fv' sv' ov' kv') ∧ Sure (fun b => b < w.heap.size) w' (fun w => StW w s fv' sv' ov' kv') ∧ Below w.heap.size w w' := by
  obtain ⟨of_, cf, rfl⟩ := lies_val hS.lf
  obtain ⟨os, cs, rfl⟩ := hS.ls.val
  obtain ⟨oo, co, rfl⟩ := hS.lo.val
  obtain ⟨ok, ck, rfl⟩ := hS.lk.val
  have OA := Lib.hid ((Own.new w (stA s (.slice of_ s.f.kids.length cf) (.slice os s.store.length cs) (.slice oo s.out.length co) (.slice ok s.k.l.length ck)) 46).alloc (.cells stZ.toArray 46))
  have OT := Lib.hid (Own.newAt (w.alloc (.cells (stA s (.slice of_ s.f.kids.length cf) (.slice os s.store.length cs) (.slice oo s.out.length co) (.slice ok s.k.l.length ck)) 46)) stZ.toArray 46 (b := w.heap.size + 1) (by simp))
  have BEL := Lib.hid (((Below.refl w.heap.size w).alloc (Nat.le_refl _) (.cells (stA s (.slice of_ s.f.kids.length cf) (.slice os s.store.length cs) (.slice oo s.out.length co) (.slice ok s.k.l.length ck)) 46)).alloc (by simp) (.cells stZ.toArray 46))
  have HS := Lib.hid hS
  have HO1 := Lib.hid hS.ls.oks
  have HO2 := Lib.hid hS.lo.oks
  have CF := fun w' h => Lib.hid (freFilt_calls s.f (.slice of_ s.f.kids.length cf) w' h hf)
  have C1 := fun w' h => Lib.hid (cloneI_calls s.store (.slice os s.store.length cs) w' h (by omega))
  have C2 := fun w' h => Lib.hid (cloneI_calls s.out (.slice oo s.out.length co) w' h (by omega))
  have CK := fun w' h => Lib.hid (freKnow_calls s.k (.slice ok s.k.l.length ck) w' h hl hi)
  clear hS hf h1 h2 hl hi
  go_enter Tryz.func37, Tryz.ntmps37
  go_upto_region 1 with fail
  revert OA OT BEL
  generalize World.alloc (World.alloc _ _) _ = W1
  intro OA OT BEL
  refine monoN_start (T := fun k => k = w.heap.size) (D := fun k => k == 13 || k == 15 || k == 17 || k == 19) (by kernel_rfl) (fun wd hbd => ?_)
  replace OA := Lib.hid (OA.out.later hbd)
  replace OT := Lib.hid (OT.out.later hbd)
  replace BEL := Lib.hid (BEL.out.trans (Below.mono hbd BEL.out.size))
  clear hbd
  refine monoN_stay (i := 0) (v := ?_) rfl (by kernel_rfl) (by kernel_rfl) (by kernel_rfl) (fun _ _ _ h => h) (Or.inl ⟨by rfl, ?_⟩) ?_
  rotate_left 1
  · (intro wL hL; go_simp; try with_reducible rfl)
  try simp only [Act.put, List.getElem_toArray, List.getElem_cons_zero, List.getElem_cons_succ, List.setIfInBounds_toArray, List.set_cons_zero, List.set_cons_succ]
  refine monoN_take (i := 1) (v := .agg #[.int .i64 s.f.op, .string s.f.text, .int .i64 s.f.n, .complex .f64 s.f.x s.f.y, (.slice of_ s.f.kids.length cf)]) rfl (by kernel_rfl) (by kernel_rfl) (by kernel_rfl) (by kernel_rfl) (fun _ _ _ h => h) (Or.inl ⟨by rfl, fun wL hL => exec_load_mid 43 _ rfl (w.heap.size) 1 (by rfl) (#[.int .i64 s.f.op, .string s.f.text, .int .i64 s.f.n, .complex .f64 s.f.x s.f.y, (.slice of_ s.f.kids.length cf)] : Array Value).toList _ ((OA.out.later hL).part 1 _ (by rfl)) Tryz.underlying43 (by rfl) (by kernel_rfl)⟩) ?_
  try simp only [Act.put, List.getElem_toArray, List.getElem_cons_zero, List.getElem_cons_succ, List.setIfInBounds_toArray, List.set_cons_zero, List.set_cons_succ]
  refine monoN_stay (i := 3) (v := ?_) rfl (by kernel_rfl) (by kernel_rfl) (by kernel_rfl) (fun _ _ _ h => h) (Or.inl ⟨by rfl, ?_⟩) ?_
  rotate_left 1
  · (intro wL hL; go_simp; try with_reducible rfl)
  try simp only [Act.put, List.getElem_toArray, List.getElem_cons_zero, List.getElem_cons_succ, List.setIfInBounds_toArray, List.set_cons_zero, List.set_cons_succ]
  refine monoN_take (i := 4) (v := ?_) rfl (by kernel_rfl) (by kernel_rfl) (by kernel_rfl) (by kernel_rfl) (fun _ _ _ h => h) (Or.inl ⟨by rfl, ?_⟩) ?_
  rotate_left 1
  · (intro wL hL; have lL := (OA.out.later hL).cell; have zL := (OA.out.later hL).lt; go_simp; try with_reducible rfl)
  try simp only [Act.put, List.getElem_toArray, List.getElem_cons_zero, List.getElem_cons_succ, List.setIfInBounds_toArray, List.set_cons_zero, List.set_cons_succ]
  refine monoN_stay (i := 6) (v := ?_) rfl (by kernel_rfl) (by kernel_rfl) (by kernel_rfl) (fun _ _ _ h => h) (Or.inl ⟨by rfl, ?_⟩) ?_
  rotate_left 1
  · (intro wL hL; go_simp; try with_reducible rfl)
  try simp only [Act.put, List.getElem_toArray, List.getElem_cons_zero, List.getElem_cons_succ, List.setIfInBounds_toArray, List.set_cons_zero, List.set_cons_succ]
  refine monoN_take (i := 7) (v := ?_) rfl (by kernel_rfl) (by kernel_rfl) (by kernel_rfl) (by kernel_rfl) (fun _ _ _ h => h) (Or.inl ⟨by rfl, ?_⟩) ?_
  rotate_left 1
  · (intro wL hL; have lL := (OA.out.later hL).cell; have zL := (OA.out.later hL).lt; go_simp; try with_reducible rfl)
  try simp only [Act.put, List.getElem_toArray, List.getElem_cons_zero, List.getElem_cons_succ, List.setIfInBounds_toArray, List.set_cons_zero, List.set_cons_succ]
  refine monoN_stay (i := 9) (v := ?_) rfl (by kernel_rfl) (by kernel_rfl) (by kernel_rfl) (fun _ _ _ h => h) (Or.inl ⟨by rfl, ?_⟩) ?_
  rotate_left 1
  · (intro wL hL; go_simp; try with_reducible rfl)
  try simp only [Act.put, List.getElem_toArray, List.getElem_cons_zero, List.getElem_cons_succ, List.setIfInBounds_toArray, List.set_cons_zero, List.set_cons_succ]
  refine monoN_take (i := 10) (v := .agg (knA s.k.star (.slice ok s.k.l.length ck))) rfl (by kernel_rfl) (by kernel_rfl) (by kernel_rfl) (by kernel_rfl) (fun _ _ _ h => h) (Or.inl ⟨by rfl, fun wL hL => exec_load_mid 31 _ rfl (w.heap.size) 8 (by rfl) ((knA s.k.star (.slice ok s.k.l.length ck)) : Array Value).toList _ ((OA.out.later hL).part 8 _ (by rfl)) Tryz.underlying31 (by rfl) (by kernel_rfl)⟩) ?_
  try simp only [Act.put, List.getElem_toArray, List.getElem_cons_zero, List.getElem_cons_succ, List.setIfInBounds_toArray, List.set_cons_zero, List.set_cons_succ]
  refine monoN_r1 (i := 2) (by kernel_rfl) ?_
  have z2OA := OA.out.lt
  have z2OT := OT.out.lt
  refine stepN_call (by rfl) (by rfl) (fun K hK => ?_)
  try simp only [List.getElem_toArray, List.getElem_cons_zero, List.getElem_cons_succ]
  (go_simp; go_at_call 58; (with_reducible refine (CF _ (HS.out.lf.later BEL.out (Nat.le_refl _))).out.mono ?_); rintro e wc ⟨v3, rfl, hl3, hb⟩; obtain ⟨o3, c3, rfl⟩ := lies_val hl3.lp; have SF := Lib.hid hl3.sure; clear hl3)
  try go_wp2_with fail
  refine hK.out _ _ (fun _ => hb) (But.of hb) ?_
  clear hK K
  replace OA := Lib.hid (OA.out.later hb)
  replace OT := Lib.hid (OT.out.later hb)
  replace BEL := Lib.hid (BEL.out.trans (Below.mono hb BEL.out.size))
  clear hb
  try simp only [Act.put, List.getElem_toArray, List.getElem_cons_zero, List.getElem_cons_succ, List.setIfInBounds_toArray, List.set_cons_zero, List.set_cons_succ]
  refine monoN_stay (i := 12) (v := ?_) rfl (by kernel_rfl) (by kernel_rfl) (by kernel_rfl) (fun _ _ _ h => h) (Or.inl ⟨by rfl, ?_⟩) ?_
  rotate_left 1
  · (intro wL hL; go_simp; try with_reducible rfl)
  try simp only [Act.put, List.getElem_toArray, List.getElem_cons_zero, List.getElem_cons_succ, List.setIfInBounds_toArray, List.set_cons_zero, List.set_cons_succ]
  refine monoN_r1 (i := 5) (by kernel_rfl) ?_
  have z5OA := OA.out.lt
  have z5OT := OT.out.lt
  refine stepN_call (by rfl) (by rfl) (fun K hK => ?_)
  try simp only [List.getElem_toArray, List.getElem_cons_zero, List.getElem_cons_succ]
  (go_simp; go_at_call 85; (with_reducible refine (C1 _ (HS.out.ls.later BEL.out)).out.mono ?_); rintro e wc ⟨v4, rfl, ho4, hb⟩; obtain ⟨o4, c4, rfl⟩ := ho4.len; have SS := Lib.hid (ho4.sure HO1.out); clear ho4)
  try go_wp2_with fail
  refine hK.out _ _ (fun _ => hb) (But.of hb) ?_
  clear hK K
  replace OA := Lib.hid (OA.out.later hb)
  replace OT := Lib.hid (OT.out.later hb)
  replace BEL := Lib.hid (BEL.out.trans (Below.mono hb BEL.out.size))
  replace SF := Lib.hid (SF.out.later hb)
  clear hb
  try simp only [Act.put, List.getElem_toArray, List.getElem_cons_zero, List.getElem_cons_succ, List.setIfInBounds_toArray, List.set_cons_zero, List.set_cons_succ]
  refine monoN_r1 (i := 8) (by kernel_rfl) ?_
  have z8OA := OA.out.lt
  have z8OT := OT.out.lt
  refine stepN_call (by rfl) (by rfl) (fun K hK => ?_)
  try simp only [List.getElem_toArray, List.getElem_cons_zero, List.getElem_cons_succ]
  (go_simp; go_at_call 85; (with_reducible refine (C2 _ (HS.out.lo.later BEL.out)).out.mono ?_); rintro e wc ⟨v5, rfl, ho5, hb⟩; obtain ⟨o5, c5, rfl⟩ := ho5.len; have SO := Lib.hid (ho5.sure HO2.out); clear ho5)
  try go_wp2_with fail
  refine hK.out _ _ (fun _ => hb) (But.of hb) ?_
  clear hK K
  replace OA := Lib.hid (OA.out.later hb)
  replace OT := Lib.hid (OT.out.later hb)
  replace BEL := Lib.hid (BEL.out.trans (Below.mono hb BEL.out.size))
  replace SF := Lib.hid (SF.out.later hb)
  replace SS := Lib.hid (SS.out.later hb)
  clear hb
  try simp only [Act.put, List.getElem_toArray, List.getElem_cons_zero, List.getElem_cons_succ, List.setIfInBounds_toArray, List.set_cons_zero, List.set_cons_succ]
  refine monoN_r1 (i := 11) (by kernel_rfl) ?_
  have z11OA := OA.out.lt
  have z11OT := OT.out.lt
  refine stepN_call (by rfl) (by rfl) (fun K hK => ?_)
  try simp only [List.getElem_toArray, List.getElem_cons_zero, List.getElem_cons_succ]
  (go_simp; go_at_call 86; (with_reducible refine (CK _ (HS.out.lk.later BEL.out (Nat.le_refl _))).out.mono ?_); rintro e wc ⟨v6, rfl, hk6, hb⟩; obtain ⟨o6, c6, rfl⟩ := hk6.fr.val; have SK := Lib.hid hk6.sure; clear hk6)
  try go_wp2_with fail
  refine hK.out _ _ (fun _ => hb) (But.of hb) ?_
  clear hK K
  replace OA := Lib.hid (OA.out.later hb)
  replace OT := Lib.hid (OT.out.later hb)
  replace BEL := Lib.hid (BEL.out.trans (Below.mono hb BEL.out.size))
  replace SF := Lib.hid (SF.out.later hb)
  replace SS := Lib.hid (SS.out.later hb)
  replace SO := Lib.hid (SO.out.later hb)
  clear hb
  try simp only [Act.put, List.getElem_toArray, List.getElem_cons_zero, List.getElem_cons_succ, List.setIfInBounds_toArray, List.set_cons_zero, List.set_cons_succ]
  refine monoN_r1 (i := 13) (by kernel_rfl) ?_
  refine stepN_store (by rfl) (by rfl) 43 _ _ (by rfl) (w.heap.size) (1) #[.int .i64 s.f.op, .string s.f.text, .int .i64 s.f.n, .complex .f64 s.f.x s.f.y, (.slice o3 s.f.kids.length c3)] (by rfl) (by rfl) OA.out (by simp) (by kernel_rfl) (by simp [Value.oneCell']) (by rfl) (rfl) (fun ws hs ho => ?_)
  replace OT := Lib.hid (OT.out.stored hs (by omega))
  replace BEL := Lib.hid (hs.bel (by omega) BEL.out)
  replace SF := Lib.hid (SF.out.stored hs (by show w.heap.size < _; omega))
  replace SS := Lib.hid (SS.out.stored hs (by show w.heap.size < _; omega))
  replace SO := Lib.hid (SO.out.stored hs (by show w.heap.size < _; omega))
  replace SK := Lib.hid (SK.out.stored hs (by show w.heap.size < _; omega))
  replace OA := Lib.hid ho
  clear hs ho
  replace OA := Lib.hid (setArr5 s (.slice of_ s.f.kids.length cf) (.slice os s.store.length cs) (.slice oo s.out.length co) (.slice ok s.k.l.length ck) (.slice o3 s.f.kids.length c3) ▸ OA.out)
  try simp only [Act.put, List.getElem_toArray, List.getElem_cons_zero, List.getElem_cons_succ, List.setIfInBounds_toArray, List.set_cons_zero, List.set_cons_succ]
  refine monoN_stay (i := 14) (v := ?_) rfl (by kernel_rfl) (by kernel_rfl) (by kernel_rfl) (fun _ _ _ h => h) (Or.inl ⟨by rfl, ?_⟩) ?_
  rotate_left 1
  · (intro wL hL; go_simp; try with_reducible rfl)
  try simp only [Act.put, List.getElem_toArray, List.getElem_cons_zero, List.getElem_cons_succ, List.setIfInBounds_toArray, List.set_cons_zero, List.set_cons_succ]
  refine monoN_r1 (i := 15) (by kernel_rfl) ?_
  refine stepN_store1 (by rfl) (by rfl) (w.heap.size) (6) ((.slice o4 s.store.length c4)) OA.out (by have lL := OA.out.cell; have fL := OA.out.free; have zL := OA.out.lt; go_simp; try rfl) (by rfl) (rfl) (fun ws hs ho => ?_)
  replace OT := Lib.hid (OT.out.stored hs (by omega))
  replace BEL := Lib.hid (hs.bel (by omega) BEL.out)
  replace SF := Lib.hid (SF.out.stored hs (by show w.heap.size < _; omega))
  replace SS := Lib.hid (SS.out.stored hs (by show w.heap.size < _; omega))
  replace SO := Lib.hid (SO.out.stored hs (by show w.heap.size < _; omega))
  replace SK := Lib.hid (SK.out.stored hs (by show w.heap.size < _; omega))
  replace OA := Lib.hid ho
  clear hs ho
  replace OA := Lib.hid (show Own _ w.heap.size (stA s (.slice o3 s.f.kids.length c3) (.slice o4 s.store.length c4) (.slice oo s.out.length co) (.slice ok s.k.l.length ck)) 46 from OA.out)
  try simp only [Act.put, List.getElem_toArray, List.getElem_cons_zero, List.getElem_cons_succ, List.setIfInBounds_toArray, List.set_cons_zero, List.set_cons_succ]
  refine monoN_stay (i := 16) (v := ?_) rfl (by kernel_rfl) (by kernel_rfl) (by kernel_rfl) (fun _ _ _ h => h) (Or.inl ⟨by rfl, ?_⟩) ?_
  rotate_left 1
  · (intro wL hL; go_simp; try with_reducible rfl)
  try simp only [Act.put, List.getElem_toArray, List.getElem_cons_zero, List.getElem_cons_succ, List.setIfInBounds_toArray, List.set_cons_zero, List.set_cons_succ]
  refine monoN_r1 (i := 17) (by kernel_rfl) ?_
  refine stepN_store1 (by rfl) (by rfl) (w.heap.size) (7) ((.slice o5 s.out.length c5)) OA.out (by have lL := OA.out.cell; have fL := OA.out.free; have zL := OA.out.lt; go_simp; try rfl) (by rfl) (rfl) (fun ws hs ho => ?_)
  replace OT := Lib.hid (OT.out.stored hs (by omega))
  replace BEL := Lib.hid (hs.bel (by omega) BEL.out)
  replace SF := Lib.hid (SF.out.stored hs (by show w.heap.size < _; omega))
  replace SS := Lib.hid (SS.out.stored hs (by show w.heap.size < _; omega))
  replace SO := Lib.hid (SO.out.stored hs (by show w.heap.size < _; omega))
  replace SK := Lib.hid (SK.out.stored hs (by show w.heap.size < _; omega))
  replace OA := Lib.hid ho
  clear hs ho
  replace OA := Lib.hid (show Own _ w.heap.size (stA s (.slice o3 s.f.kids.length c3) (.slice o4 s.store.length c4) (.slice o5 s.out.length c5) (.slice ok s.k.l.length ck)) 46 from OA.out)
  try simp only [Act.put, List.getElem_toArray, List.getElem_cons_zero, List.getElem_cons_succ, List.setIfInBounds_toArray, List.set_cons_zero, List.set_cons_succ]
  refine monoN_stay (i := 18) (v := ?_) rfl (by kernel_rfl) (by kernel_rfl) (by kernel_rfl) (fun _ _ _ h => h) (Or.inl ⟨by rfl, ?_⟩) ?_
  rotate_left 1
  · (intro wL hL; go_simp; try with_reducible rfl)
  try simp only [Act.put, List.getElem_toArray, List.getElem_cons_zero, List.getElem_cons_succ, List.setIfInBounds_toArray, List.set_cons_zero, List.set_cons_succ]
  refine monoN_r1 (i := 19) (by kernel_rfl) ?_
  refine stepN_store (by rfl) (by rfl) 31 _ _ (by rfl) (w.heap.size) (8) (knA s.k.star (.slice o6 s.k.l.length c6)) (by rfl) (by rfl) OA.out (by simp) (by kernel_rfl) (by simp [Value.oneCell']) (by rfl) (rfl) (fun ws hs ho => ?_)
  replace OT := Lib.hid (OT.out.stored hs (by omega))
  replace BEL := Lib.hid (hs.bel (by omega) BEL.out)
  replace SF := Lib.hid (SF.out.stored hs (by show w.heap.size < _; omega))
  replace SS := Lib.hid (SS.out.stored hs (by show w.heap.size < _; omega))
  replace SO := Lib.hid (SO.out.stored hs (by show w.heap.size < _; omega))
  replace SK := Lib.hid (SK.out.stored hs (by show w.heap.size < _; omega))
  replace OA := Lib.hid ho
  clear hs ho
  replace OA := Lib.hid (setArr9 s s.k.star (.slice o3 s.f.kids.length c3) (.slice o4 s.store.length c4) (.slice o5 s.out.length c5) (.slice ok s.k.l.length ck) (.slice o6 s.k.l.length c6) ▸ OA.out)
  try simp only [Act.put, List.getElem_toArray, List.getElem_cons_zero, List.getElem_cons_succ, List.setIfInBounds_toArray, List.set_cons_zero, List.set_cons_succ]
  refine monoN_done (by kernel_rfl) ?_ _
  have MO : ∀ {B : Nat}, w.heap.size + 1 < B → ∀ b, b < w.heap.size + 2 → b < B := fun h b hb => by omega
  have SX : Hid (Sure (fun b => b < w.heap.size + 2) _ (fun w => StW w s (.slice o3 s.f.kids.length c3) (.slice o4 s.store.length c4) (.slice o5 s.out.length c5) (.slice o6 s.k.l.length c6))) := Lib.hid (fun w2 h2 => ⟨SF.out w2 (h2.mono (fun b hb => by have hb' : b < w.heap.size + 2 := hb; show b < _; omega)), SS.out w2 (h2.mono (fun b hb => by have hb' : b < w.heap.size + 2 := hb; show b < _; omega)), SO.out w2 (h2.mono (fun b hb => by have hb' : b < w.heap.size + 2 := hb; show b < _; omega)), SK.out w2 (h2.mono (fun b hb => by have hb' : b < w.heap.size + 2 := hb; show b < _; omega))⟩)
  clear SF SS SO SK MO
  have HK := Lib.hid (And.intro (OT.out.sets (stA s (.slice o3 s.f.kids.length c3) (.slice o4 s.store.length c4) (.slice o5 s.out.length c5) (.slice o6 s.k.l.length c6)).toList (by rfl)) (And.intro (StoreR.sets (w.heap.size + 1) (stA s (.slice o3 s.f.kids.length c3) (.slice o4 s.store.length c4) (.slice o5 s.out.length c5) (.slice o6 s.k.l.length c6)).toList ws 0) (SX.out.stored (StoreR.sets (w.heap.size + 1) (stA s (.slice o3 s.f.kids.length c3) (.slice o4 s.store.length c4) (.slice o5 s.out.length c5) (.slice o6 s.k.l.length c6)).toList ws 0) (Nat.lt_succ_self _))))
  go_wp2_with (first
    | (refine wpList_load_mid (by rfl) 46 _ (by rfl) w.heap.size 0 (by rfl) (stA s (.slice o3 s.f.kids.length c3) (.slice o4 s.store.length c4) (.slice o5 s.out.length c5) (.slice o6 s.k.l.length c6)).toList _ (by exact OA.out.part 0 _ (by rfl)) Tryz.underlying46 (by rfl) (by kernel_rfl) ?_)
    | (refine wpList_store_mid (by rfl) 46 _ _ (by rfl) (w.heap.size + 1) 0 (stA s (.slice o3 s.f.kids.length c3) (.slice o4 s.store.length c4) (.slice o5 s.out.length c5) (.slice o6 s.k.l.length c6)) (by rfl) (by rfl) (by exact OT.out.there (by rfl)) (by kernel_rfl) (by simp [Value.oneCell']) ?_)
    | fail)
  have BE := Lib.hid (HK.out.2.1.bel (Nat.le_succ _) BEL.out)
  clear OA OT SX BEL
  revert HK BE
  generalize World.setCells _ _ _ _ = WW
  intro HK BE
  exact ret_cell (by rfl) (by rfl) (l := (stA s (.slice o3 s.f.kids.length c3) (.slice o4 s.store.length c4) (.slice o5 s.out.length c5) (.slice o6 s.k.l.length c6)).toList) HK.out.1.range Tryz.underlying46 (by rfl) (by kernel_rfl) rfl ⟨_, _, _, _, rfl, HK.out.2.2.mono (fun b hb => by have hb' : b < w.heap.size := hb; show b < _; omega), BE.out⟩
end Go.Proofs.YtjkcooakddlppaaGreat
/- The code's comes and has of layer 10. Walked. -/
namespace Go.Proofs.YtjkcooakddlppaaGreat
set_option linter.unusedVariables false
set_option linter.unusedSimpArgs false
set_option maxRecDepth 100000
open Go Go.RowKit
set_option maxRecDepth 100000 in
set_option maxHeartbeats 8000000 in
theorem comes_calls (s : St) (fv sv ov kv : Value) (x : Itm) (w : World) :
    Calls Tryz.prog 38 #[stV s fv sv ov kv, iV x] w fun e w' => e = .returned (.bool (comesB s x)) ∧ Below w.heap.size w w' := by
  have OA := Lib.hid ((Own.new w (stA s fv sv ov kv) 46).alloc (.cells (iA x) 49))
  have OX := Lib.hid (Own.newAt (w.alloc (.cells (stA s fv sv ov kv) 46)) (iA x) 49 (b := w.heap.size + 1) (by simp))
  have BEL := Lib.hid (((Below.refl w.heap.size w).alloc (Nat.le_refl _) (.cells (stA s fv sv ov kv) 46)).alloc (by simp) (.cells (iA x) 49))
  have CM := fun w' => Lib.hid (mayC_calls x w')
  have HE := Lib.hid (show comesB s x = (mayT x && (!(decide (x.r = s.r)) || decide (x.c ≤ s.count))) from rfl)
  generalize comesB s x = res at *
  have ways : (mayT x = false ∧ res = false) ∨ (mayT x = true ∧ (x.r != s.r) = true ∧ res = true) ∨ (mayT x = true ∧ (x.r != s.r) = false ∧ decide (x.c ≤ s.count) = true ∧ res = true) ∨ (mayT x = true ∧ (x.r != s.r) = false ∧ decide (x.c ≤ s.count) = false ∧ res = false) := by
    have h := HE.out
    cases hm : mayT x
    · rw [hm] at h; exact .inl ⟨rfl, h⟩
    · rw [hm] at h
      by_cases hr : x.r = s.r
      · by_cases hc : x.c ≤ s.count
        · exact .inr (.inr (.inl ⟨rfl, by simp [hr], by simp [hc], by rw [h]; simp [hr, hc]⟩))
        · exact .inr (.inr (.inr ⟨rfl, by simp [hr], by simp; omega, by rw [h]; simp [hr, hc]⟩))
      · exact .inr (.inl ⟨rfl, by simp [hr], by rw [h]; simp [hr]⟩)
  clear HE
  have lA := OA.out.cell
  have zA := OA.out.lt
  have lX := OX.out.cell
  have zX := OX.out.lt
  rcases ways with ⟨hm, rfl⟩ | ⟨hm, e1, rfl⟩ | ⟨hm, e1, e2, rfl⟩ | ⟨hm, e1, e2, rfl⟩
  all_goals
    rw [hm] at CM
    clear hm
    go_enter Tryz.func38, Tryz.ntmps38
    go_wp2_with (refine wpList_load_mid (by rfl) 49 _ (by rfl) (w.heap.size + 1) 0 (by rfl) (ic x) _ (by exact OX.out.part 0 _ (by rfl)) Tryz.underlying49 (by rfl) (by kernel_rfl) ?_)
    refine (CM _).out.mono ?_
    rintro e w1 ⟨rfl, hb⟩
    clear lA zA lX zX
    replace OA := Lib.hid (OA.out.later hb)
    replace OX := Lib.hid (OX.out.later hb)
    replace BEL := Lib.hid (BEL.out.trans (hb.mono BEL.out.size))
    clear hb
    have lA := OA.out.cell
    have zA := OA.out.lt
    have lX := OX.out.cell
    have zX := OX.out.lt
    go_wp2_with fail
    go_ret
    exact ⟨rfl, BEL.out⟩
set_option maxRecDepth 100000 in
set_option maxHeartbeats 8000000 in
theorem rcvHas_calls (p : Pr) (v : Value) (x : Itm) (w : World) (hL : LP w p v) (hid : x.id.size ≤ maxLen) (hsz : p.size ≤ 1000) :
    Calls Tryz.prog 42 #[prV p v, iV x] w fun e w' => e = .returned (.bool (hasT p x)) ∧ Below w.heap.size w w' := by
  have OA := Lib.hid ((Own.new w #[.int .i64 p.op, .string p.text, .int .i64 p.n, .complex .f64 p.x p.y, v] 43).alloc (.cells (iA x) 49))
  have OX := Lib.hid (Own.newAt (w.alloc (.cells #[.int .i64 p.op, .string p.text, .int .i64 p.n, .complex .f64 p.x p.y, v] 43)) (iA x) 49 (b := w.heap.size + 1) (by simp))
  have BEL := Lib.hid (((Below.refl w.heap.size w).alloc (Nat.le_refl _) (.cells #[.int .i64 p.op, .string p.text, .int .i64 p.n, .complex .f64 p.x p.y, v] 43)).alloc (by simp) (.cells (iA x) 49))
  have HL := Lib.hid hL
  have CS := fun w' h => Lib.hid (freSmall_calls p v w' h (by omega))
  have CH := fun w' h => Lib.hid (show Calls Tryz.prog 93 #[prV p v, iV x] w' (fun e w'' => e = .returned (.bool (hasT p x)) ∧ Below w'.heap.size w' w'') from has_calls x.it x.r x.c x.st x.d hid p v w' h)
  clear hL hid hsz
  generalize hasT p x = res at *
  have lA := OA.out.cell
  have zA := OA.out.lt
  go_enter Tryz.func42, Tryz.ntmps42
  go_wp2_with fail
  refine (CS _ (HL.out.later BEL.out (Nat.le_refl _))).out.mono ?_
  rintro e w1 ⟨rfl, hb⟩
  clear lA zA
  replace OA := Lib.hid (OA.out.later hb)
  replace OX := Lib.hid (OX.out.later hb)
  replace BEL := Lib.hid (BEL.out.trans (hb.mono BEL.out.size))
  clear hb
  have lA := OA.out.cell
  have zA := OA.out.lt
  have lX := OX.out.cell
  have zX := OX.out.lt
  go_wp2_with fail
  refine (CH _ (HL.out.later BEL.out (Nat.le_refl _))).out.mono ?_
  rintro e w2 ⟨rfl, hb⟩
  clear lA zA lX zX
  replace BEL := Lib.hid (BEL.out.trans (hb.mono BEL.out.size))
  clear hb
  go_wp2_with fail
  all_goals
    go_ret
    exact ⟨rfl, BEL.out⟩
end Go.Proofs.YtjkcooakddlppaaGreat
/- The code's local.May. Walked. -/
namespace Go.Proofs.YtjkcooakddlppaaGreat
set_option linter.unusedVariables false
set_option linter.unusedSimpArgs false
set_option maxRecDepth 100000
open Go.RowKit
def placedB (s : St) : Bool := (decide (s.store.length + s.out.length ≤ 40) && (mayLB s.store && mayLB s.out)) && (!(s.store.any (strayB s)) && !(s.out.any (hasT s.f)))
def knowsB (s : St) (k : Nat) : Bool := (decide (s.k.star k ≤ s.count) && !(s.k.l.any (aheadB s k))) && (!(s.store.any (strangeB s)) && !(s.out.any (strangeB s)))
def mayCode (s : St) : Bool := ((((inB s.r 1 8 && numS s) && Pr.mayB s.f) && placedB s) && mayK nameB s.k) && knowsB s (s.r - 1).toNat
theorem mayCode_eq (s : St) : mayCode s = mayS s := by
  rw [Bool.eq_iff_iff, mayS_iff]
  unfold mayCode placedB knowsB numS
  simp only [Bool.and_eq_true, inB_iff, decide_eq_true_eq, Bool.not_eq_true', List.any_eq_false]
  constructor
  · rintro ⟨⟨⟨⟨⟨hr, hc, ht, he⟩, hf⟩, ⟨hn, hs, ho⟩, hst, hin⟩, hk⟩, ⟨hstar, hah⟩, hs2, ho2⟩
    refine ⟨hf, hs, ho, hk, hr, hn, hc, ht, he, fun i hi j hj e => ?_, fun i hi => ?_, fun i hi => ?_, ?_⟩
    · have := hst j hj
      unfold strayB at this
      rw [get_is.2 ⟨i, hi, e.symm⟩] at this
      simp at this
    · have h1 := hst i hi
      have h2 := hs2 i hi
      unfold strayB at h1
      unfold strangeB at h2
      simp only [Bool.or_eq_true, Bool.not_eq_true', decide_eq_true_eq, not_or, Bool.not_eq_false] at h1 h2
      exact ⟨h1.2, h2.2, by omega⟩
    · have h1 := hin i hi
      have h2 := ho2 i hi
      unfold strangeB at h2
      simp only [Bool.or_eq_true, Bool.not_eq_true', decide_eq_true_eq, not_or, Bool.not_eq_false] at h2
      exact ⟨by simpa using h1, h2.2, by omega⟩
    · rw [beyS_iff]
      refine ⟨cntV_le hc.1 fun _ => hstar, fun f hf => cntV_le hc.1 fun _ => ?_⟩
      have := hah f hf
      unfold aheadB at this
      simp only [decide_eq_true_eq] at this
      omega
  · intro h
    have hb := beyS_iff.1 h.b
    refine ⟨⟨⟨⟨⟨h.r, h.c, h.t, h.e⟩, h.f⟩, ⟨h.n, h.st, h.ou⟩, fun i hi => ?_, fun i hi => ?_⟩, h.k⟩, ⟨cnt_at hb.1 h.r, fun f hf => ?_⟩, fun i hi => ?_, fun i hi => ?_⟩
    · have h1 := (h.si i hi).has
      have h2 : (getI s.out i.id).2 = false := by
        cases q : (getI s.out i.id).2 with
        | false => rfl
        | true => obtain ⟨j, hj, e⟩ := get_is.1 q; exact absurd e.symm (h.tw j hj i hi)
      unfold strayB; rw [h1, h2]; simp
    · rw [(h.so i hi).has]; simp
    · have := cnt_at (hb.2 f hf) h.r
      unfold aheadB; rw [decide_eq_true_eq]; omega
    · have := h.si i hi
      unfold strangeB; rw [this.knows]; have := this.stamp; simp; omega
    · have := h.so i hi
      unfold strangeB; rw [this.knows]; have := this.stamp; simp; omega
set_option maxHeartbeats 4000000 in
theorem numbers_calls (s : St) (fv sv ov kv : Value) (w : World) :
    Calls Tryz.prog 67 #[stV s fv sv ov kv] w fun e w' => e = .returned (.bool (inB s.r 1 8 && numS s)) ∧ Below w.heap.size w w' := by
  have OA := Lib.hid (Own.new w (stA s fv sv ov kv) 46)
  have BE := Lib.hid ((Below.refl w.heap.size w).alloc (Nat.le_refl _) (.cells (stA s fv sv ov kv) 46))
  have W1 := fun w' => Lib.hid (locWithin_calls s.r 1 8 w')
  have W2 := fun w' => Lib.hid (locWithin_calls s.count 0 1000 w')
  have W3 := fun w' => Lib.hid (locWithin_calls s.clock 0 1000000 w')
  have W4 := fun w' => Lib.hid (locWithin_calls s.epoch 0 1000000 w')
  have e : (inB s.r 1 8 && numS s) = (inB s.r 1 8 && (inB s.count 0 1000 && (inB s.clock 0 1000000 && inB s.epoch 0 1000000))) := rfl
  rw [e]
  clear e
  have l0 := OA.out.cell
  have z0 := OA.out.lt
  generalize inB s.r 1 8 = b1 at *
  generalize inB s.count 0 1000 = b2 at *
  generalize inB s.clock 0 1000000 = b3 at *
  generalize inB s.epoch 0 1000000 = b4 at *
  cases b1
  · go_enter Tryz.func67, Tryz.ntmps67
    go_wp2_with fail
    refine (W1 _).out.mono ?_
    rintro e w' ⟨rfl, rfl⟩
    go_wp2_with fail
    go_ret
    exact ⟨rfl, BE.out⟩
  · cases b2
    · go_enter Tryz.func67, Tryz.ntmps67
      go_wp2_with fail
      refine (W1 _).out.mono ?_
      rintro e w' ⟨rfl, rfl⟩
      go_wp2_with fail
      refine (W2 _).out.mono ?_
      rintro e w' ⟨rfl, rfl⟩
      go_wp2_with fail
      go_ret
      exact ⟨rfl, BE.out⟩
    · cases b3
      · go_enter Tryz.func67, Tryz.ntmps67
        go_wp2_with fail
        refine (W1 _).out.mono ?_
        rintro e w' ⟨rfl, rfl⟩
        go_wp2_with fail
        refine (W2 _).out.mono ?_
        rintro e w' ⟨rfl, rfl⟩
        go_wp2_with fail
        refine (W3 _).out.mono ?_
        rintro e w' ⟨rfl, rfl⟩
        go_wp2_with fail
        go_ret
        exact ⟨rfl, BE.out⟩
      · go_enter Tryz.func67, Tryz.ntmps67
        go_wp2_with fail
        refine (W1 _).out.mono ?_
        rintro e w' ⟨rfl, rfl⟩
        go_wp2_with fail
        refine (W2 _).out.mono ?_
        rintro e w' ⟨rfl, rfl⟩
        go_wp2_with fail
        refine (W3 _).out.mono ?_
        rintro e w' ⟨rfl, rfl⟩
        go_wp2_with fail
        refine (W4 _).out.mono ?_
        rintro e w' ⟨rfl, rfl⟩
        go_wp2_with fail
        go_ret
        exact ⟨rfl, BE.out⟩
set_option maxHeartbeats 8000000 in
theorem placed_calls (s : St) (fv sv ov kv : Value) (w : World) (hS : StW w s fv sv ov kv) (h1 : s.store.length ≤ 1000) (h2 : s.out.length ≤ 1000) :
    Calls Tryz.prog 68 #[stV s fv sv ov kv] w fun e w' => e = .returned (.bool (placedB s)) ∧ Below w.heap.size w w' := by
  obtain ⟨of_, cf, rfl⟩ := lies_val hS.lf
  obtain ⟨os, cs, rfl⟩ := hS.ls.val
  obtain ⟨oo, co, rfl⟩ := hS.lo.val
  obtain ⟨ok, ck, rfl⟩ := hS.lk.val
  have HOK1 := Lib.hid hS.ls.oks
  have HOK2 := Lib.hid hS.lo.oks
  have OS : StO (w.alloc (.cells (stA s (.slice of_ s.f.kids.length cf) (.slice os s.store.length cs) (.slice oo s.out.length co) (.slice ok s.k.l.length ck)) 46)) s (.slice of_ s.f.kids.length cf) (.slice os s.store.length cs) (.slice oo s.out.length co) (.slice ok s.k.l.length ck) w.heap.size := ⟨Own.new w _ _, hS.alloc _⟩
  have OS := Lib.hid OS
  have BE := Lib.hid ((Below.refl w.heap.size w).alloc (Nat.le_refl _) (.cells (stA s (.slice of_ s.f.kids.length cf) (.slice os s.store.length cs) (.slice oo s.out.length co) (.slice ok s.k.l.length ck)) 46))
  have M1 := fun w' h => Lib.hid (listMay_calls s.store (.slice os s.store.length cs) w' h h1)
  have M2 := fun w' h => Lib.hid (listMay_calls s.out (.slice oo s.out.length co) w' h h2)
  have CA := fun w' (h : StO w' s (.slice of_ s.f.kids.length cf) (.slice os s.store.length cs) (.slice oo s.out.length co) (.slice ok s.k.l.length ck) w.heap.size) (hr : RiseI s.out) => Lib.hid (containsAstray_calls (strayB s) s.store (.slice os s.store.length cs) w.heap.size w' h.w.ls (fun w'' hb x hx => astray_calls s _ _ _ _ w.heap.size x w'' (h.later hb) hr h2 (HOK1.out x hx).1))
  have CI := fun w' (h : StO w' s (.slice of_ s.f.kids.length cf) (.slice os s.store.length cs) (.slice oo s.out.length co) (.slice ok s.k.l.length ck) w.heap.size) => Lib.hid (containsInside_calls (hasT s.f) s.out (.slice oo s.out.length co) w.heap.size w' h.w.lo (fun w'' hb x hx => inside_calls s _ _ _ _ w.heap.size x w'' (h.later hb) (HOK2.out x hx).1))
  have e : placedB s = ((decide (s.store.length + s.out.length ≤ 40) && (mayLB s.store && mayLB s.out)) && (!(s.store.any (strayB s)) && !(s.out.any (hasT s.f)))) := rfl
  rw [e]
  have hr : mayLB s.out = true → RiseI s.out := fun h => (mayLB_iff.1 h).2
  have HR := Lib.hid hr
  clear hS e hr
  have l0 := OS.out.o.cell
  have z0 := OS.out.o.lt
  generalize hA : s.store.any (strayB s) = bA at *
  generalize hB : s.out.any (hasT s.f) = bB at *
  generalize hC : mayLB s.store = bC at *
  generalize hD : mayLB s.out = bD at *
  clear hA hB hC hD
  by_cases hn : s.store.length + s.out.length ≤ 40
  · have g1 : decide (40 < (s.store.length : Int) + (s.out.length : Int)) = false := decide_eq_false (by omega)
    have g2 : decide (s.store.length + s.out.length ≤ 40) = true := decide_eq_true hn
    rw [g2]
    clear g2
    have M1 := M1 _ OS.out.w.ls
    generalize s.store.length = n1 at *
    generalize s.out.length = n2 at *
    cases bC
    · go_enter Tryz.func68, Tryz.ntmps68
      go_wp2_with fail
      refine M1.out.mono ?_
      rintro e w1 ⟨rfl, hb⟩
      clear l0 z0
      replace BE := Lib.hid (BE.out.trans (hb.mono BE.out.size))
      replace OS := Lib.hid (OS.out.later hb)
      clear hb
      have l0 := OS.out.o.cell
      have z0 := OS.out.o.lt
      go_wp2_with fail
      go_ret
      exact ⟨ret_bool (by simp), BE.out⟩
    · cases bD
      · go_enter Tryz.func68, Tryz.ntmps68
        go_wp2_with fail
        refine M1.out.mono ?_
        rintro e w1 ⟨rfl, hb⟩
        clear l0 z0
        replace BE := Lib.hid (BE.out.trans (hb.mono BE.out.size))
        replace OS := Lib.hid (OS.out.later hb)
        clear hb
        have l0 := OS.out.o.cell
        have z0 := OS.out.o.lt
        go_wp2_with fail
        refine (M2 _ OS.out.w.lo).out.mono ?_
        rintro e w2 ⟨rfl, hb⟩
        clear l0 z0
        replace BE := Lib.hid (BE.out.trans (hb.mono BE.out.size))
        replace OS := Lib.hid (OS.out.later hb)
        clear hb
        have l0 := OS.out.o.cell
        have z0 := OS.out.o.lt
        go_wp2_with fail
        go_ret
        exact ⟨ret_bool (by simp), BE.out⟩
      · have HR2 := Lib.hid (HR.out rfl)
        clear HR
        cases bA
        · go_enter Tryz.func68, Tryz.ntmps68
          go_wp2_with fail
          refine M1.out.mono ?_
          rintro e w1 ⟨rfl, hb⟩
          clear l0 z0
          replace BE := Lib.hid (BE.out.trans (hb.mono BE.out.size))
          replace OS := Lib.hid (OS.out.later hb)
          clear hb
          have l0 := OS.out.o.cell
          have z0 := OS.out.o.lt
          go_wp2_with fail
          refine (M2 _ OS.out.w.lo).out.mono ?_
          rintro e w2 ⟨rfl, hb⟩
          clear l0 z0
          replace BE := Lib.hid (BE.out.trans (hb.mono BE.out.size))
          replace OS := Lib.hid (OS.out.later hb)
          clear hb
          have l0 := OS.out.o.cell
          have z0 := OS.out.o.lt
          go_wp2_with fail
          refine (CA _ OS.out HR2.out).out.mono ?_
          rintro e w3 ⟨rfl, hb⟩
          clear l0 z0
          replace BE := Lib.hid (BE.out.trans (hb.mono BE.out.size))
          replace OS := Lib.hid (OS.out.later hb)
          clear hb
          have l0 := OS.out.o.cell
          have z0 := OS.out.o.lt
          go_wp2_with fail
          refine (CI _ OS.out).out.mono ?_
          rintro e w4 ⟨rfl, hb⟩
          clear l0 z0
          replace BE := Lib.hid (BE.out.trans (hb.mono BE.out.size))
          replace OS := Lib.hid (OS.out.later hb)
          clear hb
          have l0 := OS.out.o.cell
          have z0 := OS.out.o.lt
          go_wp2_with fail
          go_ret
          exact ⟨ret_bool (by simp), BE.out⟩
        · go_enter Tryz.func68, Tryz.ntmps68
          go_wp2_with fail
          refine M1.out.mono ?_
          rintro e w1 ⟨rfl, hb⟩
          clear l0 z0
          replace BE := Lib.hid (BE.out.trans (hb.mono BE.out.size))
          replace OS := Lib.hid (OS.out.later hb)
          clear hb
          have l0 := OS.out.o.cell
          have z0 := OS.out.o.lt
          go_wp2_with fail
          refine (M2 _ OS.out.w.lo).out.mono ?_
          rintro e w2 ⟨rfl, hb⟩
          clear l0 z0
          replace BE := Lib.hid (BE.out.trans (hb.mono BE.out.size))
          replace OS := Lib.hid (OS.out.later hb)
          clear hb
          have l0 := OS.out.o.cell
          have z0 := OS.out.o.lt
          go_wp2_with fail
          refine (CA _ OS.out HR2.out).out.mono ?_
          rintro e w3 ⟨rfl, hb⟩
          clear l0 z0
          replace BE := Lib.hid (BE.out.trans (hb.mono BE.out.size))
          replace OS := Lib.hid (OS.out.later hb)
          clear hb
          have l0 := OS.out.o.cell
          have z0 := OS.out.o.lt
          go_wp2_with fail
          go_ret
          exact ⟨ret_bool (by simp), BE.out⟩
  · have g1 : decide (40 < (s.store.length : Int) + (s.out.length : Int)) = true := decide_eq_true (by omega)
    have g2 : decide (s.store.length + s.out.length ≤ 40) = false := decide_eq_false hn
    rw [g2]
    clear g2
    go_enter Tryz.func68, Tryz.ntmps68
    go_wp2_with fail
    go_ret
    exact ⟨ret_bool (by simp), BE.out⟩
set_option maxHeartbeats 8000000 in
theorem knows_calls (s : St) (fv sv ov kv : Value) (k : Nat) (hk : k < 8) (hr : s.r = (k : Int) + 1) (w : World) (hS : StW w s fv sv ov kv) :
    Calls Tryz.prog 70 #[stV s fv sv ov kv] w fun e w' => e = .returned (.bool (knowsB s k)) ∧ Below w.heap.size w w' := by
  obtain ⟨of_, cf, rfl⟩ := lies_val hS.lf
  obtain ⟨os, cs, rfl⟩ := hS.ls.val
  obtain ⟨oo, co, rfl⟩ := hS.lo.val
  obtain ⟨ok, ck, rfl⟩ := hS.lk.val
  have HOK1 := Lib.hid hS.ls.oks
  have HOK2 := Lib.hid hS.lo.oks
  have OS0 : StO (w.alloc (.cells (stA s (.slice of_ s.f.kids.length cf) (.slice os s.store.length cs) (.slice oo s.out.length co) (.slice ok s.k.l.length ck)) 46)) s (.slice of_ s.f.kids.length cf) (.slice os s.store.length cs) (.slice oo s.out.length co) (.slice ok s.k.l.length ck) w.heap.size := ⟨Own.new w _ _, hS.alloc _⟩
  have OS := Lib.hid OS0
  have BE := Lib.hid ((Below.refl w.heap.size w).alloc (Nat.le_refl _) (.cells (stA s (.slice of_ s.f.kids.length cf) (.slice os s.store.length cs) (.slice oo s.out.length co) (.slice ok s.k.l.length ck)) 46))
  have m1 := fun dd os_ => Lib.hid (Calls.regrown_of (containsAhead_calls (aheadB s k) s.k.l (.slice ok s.k.l.length ck) w.heap.size _ (OS0.w.regrown dd os_).lk (fun w'' hb j f u hf hT => ahead_calls s (.slice of_ s.f.kids.length cf) (.slice os s.store.length cs) (.slice oo s.out.length co) (.slice ok s.k.l.length ck) w.heap.size k hk hr f u w'' (((OS0.o.later (below_regrown _ dd os_)).later hb)) hT)))
  have m2 := fun dd os_ => Lib.hid (Calls.regrown_of (containsStrange_calls (strangeB s) s.store (.slice os s.store.length cs) w.heap.size _ (OS0.w.regrown dd os_).ls (fun w'' hb x hx => strange_calls s (.slice of_ s.f.kids.length cf) (.slice os s.store.length cs) (.slice oo s.out.length co) (.slice ok s.k.l.length ck) w.heap.size x w'' ((OS0.later (below_regrown _ dd os_)).later hb) (HOK1.out x hx).1)))
  have m3 := fun dd os_ => Lib.hid (Calls.regrown_of (containsStrange_calls (strangeB s) s.out (.slice oo s.out.length co) w.heap.size _ (OS0.w.regrown dd os_).lo (fun w'' hb x hx => strange_calls s (.slice of_ s.f.kids.length cf) (.slice os s.store.length cs) (.slice oo s.out.length co) (.slice ok s.k.l.length ck) w.heap.size x w'' ((OS0.later (below_regrown _ dd os_)).later hb) (HOK2.out x hx).1)))
  have L0 := fun dd os_ => (OS0.o.has.regrown dd os_ 0).trans (show _ = some (Value.int .i64 ((k : Int) + 1)) from by rw [← hr]; rfl)
  have L6 := fun dd os_ => (OS0.o.has.regrown dd os_ 6).trans (show _ = some (Value.slice os s.store.length cs) from rfl)
  have L7 := fun dd os_ => (OS0.o.has.regrown dd os_ 7).trans (show _ = some (Value.slice oo s.out.length co) from rfl)
  have L8 := fun dd os_ => (OS0.o.has.regrown dd os_ (8 + k)).trans (stA_star s (.slice of_ s.f.kids.length cf) (.slice os s.store.length cs) (.slice oo s.out.length co) (.slice ok s.k.l.length ck) hk)
  have L16 := fun dd os_ => (OS0.o.has.regrown dd os_ 16).trans (show _ = some (Value.slice ok s.k.l.length ck) from rfl)
  have L17 := fun dd os_ => (OS0.o.has.regrown dd os_ 17).trans (show _ = some (Value.int .i64 s.count) from rfl)
  have e : knowsB s k = ((decide (s.k.star k ≤ s.count) && !(s.k.l.any (aheadB s k))) && (!(s.store.any (strangeB s)) && !(s.out.any (strangeB s)))) := rfl
  rw [e]
  have zs := OS0.o.lt
  have k0 : (0 : Int) ≤ (k : Int) := by omega
  have k1 : (k : Int) < 8 := by omega
  have k2 : (k : Int) + 1 - 1 = k := by omega
  clear hS e hr OS0
  generalize hA : s.k.l.any (aheadB s k) = bA at *
  generalize hB : s.store.any (strangeB s) = bB at *
  generalize hC : s.out.any (strangeB s) = bC at *
  clear hA hB hC
  by_cases hn : s.k.star k ≤ s.count
  · have g1 : decide (s.k.star k ≤ s.count) = true := decide_eq_true hn
    rw [g1]
    cases bA
    · cases bB
      · go_enter Tryz.func70, Tryz.ntmps70
        go_upto_region 3 with fail
        refine wp_region_quiet_below (by kernel_rfl) (by kernel_rfl) ?_
        repeat (first | go_big_quiet_step (first | (with_reducible exact (m1 _ _).out) | (with_reducible exact (m2 _ _).out) | (with_reducible exact (m3 _ _).out)) | quiet_step (first | (with_reducible exact (m1 _ _).out) | (with_reducible exact (m2 _ _).out) | (with_reducible exact (m3 _ _).out)))
        refine wpQuiet_nil ?_
        intro w7 hw'
        have hb7 := regrown_below hw'
        clear hw' m1 m2 m3 L0 L6 L7 L8 L16 L17
        go_wp2_with fail
        go_ret
        exact ⟨ret_bool (by simp), BE.out.trans (hb7.mono BE.out.size)⟩
      · go_enter Tryz.func70, Tryz.ntmps70
        go_upto_region 3 with fail
        refine wp_region_quiet_below (by kernel_rfl) (by kernel_rfl) ?_
        repeat (first | go_big_quiet_step (first | (with_reducible exact (m1 _ _).out) | (with_reducible exact (m2 _ _).out) | (with_reducible exact (m3 _ _).out)) | quiet_step (first | (with_reducible exact (m1 _ _).out) | (with_reducible exact (m2 _ _).out) | (with_reducible exact (m3 _ _).out)))
        refine wpQuiet_nil ?_
        intro w7 hw'
        have hb7 := regrown_below hw'
        clear hw' m1 m2 m3 L0 L6 L7 L8 L16 L17
        go_wp2_with fail
        go_ret
        exact ⟨ret_bool (by simp), BE.out.trans (hb7.mono BE.out.size)⟩
    · go_enter Tryz.func70, Tryz.ntmps70
      go_upto_region 3 with fail
      refine wp_region_quiet_below (by kernel_rfl) (by kernel_rfl) ?_
      repeat (first | go_big_quiet_step (first | (with_reducible exact (m1 _ _).out) | (with_reducible exact (m2 _ _).out) | (with_reducible exact (m3 _ _).out)) | quiet_step (first | (with_reducible exact (m1 _ _).out) | (with_reducible exact (m2 _ _).out) | (with_reducible exact (m3 _ _).out)))
      refine wpQuiet_nil ?_
      intro w7 hw'
      have hb7 := regrown_below hw'
      clear hw' m1 m2 m3 L0 L6 L7 L8 L16 L17
      go_wp2_with fail
      go_ret
      exact ⟨ret_bool (by simp), BE.out.trans (hb7.mono BE.out.size)⟩
  · have g1 : decide (s.k.star k ≤ s.count) = false := decide_eq_false hn
    rw [g1]
    go_enter Tryz.func70, Tryz.ntmps70
    go_upto_region 3 with fail
    refine wp_region_quiet_below (by kernel_rfl) (by kernel_rfl) ?_
    repeat (first | go_big_quiet_step (first | (with_reducible exact (m1 _ _).out) | (with_reducible exact (m2 _ _).out) | (with_reducible exact (m3 _ _).out)) | quiet_step (first | (with_reducible exact (m1 _ _).out) | (with_reducible exact (m2 _ _).out) | (with_reducible exact (m3 _ _).out)))
    refine wpQuiet_nil ?_
    intro w7 hw'
    have hb7 := regrown_below hw'
    clear hw' m1 m2 m3 L0 L6 L7 L8 L16 L17
    go_wp2_with fail
    go_ret
    exact ⟨ret_bool (by simp), BE.out.trans (hb7.mono BE.out.size)⟩
set_option maxRecDepth 100000 in
set_option maxHeartbeats 8000000 in
theorem codeMayS_calls (s : St) (fv sv ov kv : Value) (w : World) (hS : StW w s fv sv ov kv) (h1 : s.store.length ≤ 1000) (h2 : s.out.length ≤ 1000) (h3 : (flatI s.k.l).length ≤ 10000) :
    Calls Tryz.prog 25 #[stV s fv sv ov kv] w fun e w' => e = .returned (.bool (mayS s)) ∧ Below w.heap.size w w' := by
  obtain ⟨of_, cf, rfl⟩ := lies_val hS.lf
  obtain ⟨os, cs, rfl⟩ := hS.ls.val
  obtain ⟨oo, co, rfl⟩ := hS.lo.val
  obtain ⟨ok, ck, rfl⟩ := hS.lk.val
  have OS : StO (w.alloc (.cells (stA s (.slice of_ s.f.kids.length cf) (.slice os s.store.length cs) (.slice oo s.out.length co) (.slice ok s.k.l.length ck)) 46)) s (.slice of_ s.f.kids.length cf) (.slice os s.store.length cs) (.slice oo s.out.length co) (.slice ok s.k.l.length ck) w.heap.size := ⟨Own.new w _ _, hS.alloc _⟩
  have OS := Lib.hid OS
  have BE := Lib.hid ((Below.refl w.heap.size w).alloc (Nat.le_refl _) (.cells (stA s (.slice of_ s.f.kids.length cf) (.slice os s.store.length cs) (.slice oo s.out.length co) (.slice ok s.k.l.length ck)) 46))
  have N1 := fun w' => Lib.hid (numbers_calls s (.slice of_ s.f.kids.length cf) (.slice os s.store.length cs) (.slice oo s.out.length co) (.slice ok s.k.l.length ck) w')
  have N2 := fun w' h => Lib.hid (predMay_calls s.f (.slice of_ s.f.kids.length cf) w' h)
  have N3 := fun w' h => Lib.hid (placed_calls s (.slice of_ s.f.kids.length cf) (.slice os s.store.length cs) (.slice oo s.out.length co) (.slice ok s.k.l.length ck) w' h h1 h2)
  have N4 := fun w' h => Lib.hid (knowMay_calls nameB rfl s.k (.slice ok s.k.l.length ck) w' h h3)
  have N5 : (inB s.r 1 8 && numS s) = true → ∀ w' (h : StW w' s (.slice of_ s.f.kids.length cf) (.slice os s.store.length cs) (.slice oo s.out.length co) (.slice ok s.k.l.length ck)), Hid (Calls Tryz.prog 70 #[(stV s (.slice of_ s.f.kids.length cf) (.slice os s.store.length cs) (.slice oo s.out.length co) (.slice ok s.k.l.length ck))] w' fun e w'' => e = .returned (.bool (knowsB s (s.r - 1).toNat)) ∧ Below w'.heap.size w' w'') := fun hn w' h => by
    have hr := inB_iff.1 (Bool.and_eq_true_iff.1 hn).1
    exact Lib.hid (knows_calls s (.slice of_ s.f.kids.length cf) (.slice os s.store.length cs) (.slice oo s.out.length co) (.slice ok s.k.l.length ck) (s.r - 1).toNat (by omega) (by omega) w' h)
  have N5 := Lib.hid N5
  have e := mayCode_eq s
  unfold mayCode at e
  rw [← e]
  clear hS e
  have l0 := OS.out.o.cell
  have z0 := OS.out.o.lt
  generalize (inB s.r 1 8 && numS s) = bA at *
  generalize Pr.mayB s.f = bB at *
  generalize placedB s = bC at *
  generalize mayK nameB s.k = bD at *
  generalize knowsB s (s.r - 1).toNat = bE at *
  generalize s.store.length = n1 at *
  generalize s.out.length = n2 at *
  generalize s.k.l.length = n3 at *
  cases bA
  · go_enter Tryz.func25, Tryz.ntmps25
    go_wp2_with (first | (refine wpList_load_mid (by rfl) 46 _ (by rfl) w.heap.size 0 (by rfl) ((stA s (.slice of_ s.f.kids.length cf) (.slice os n1 cs) (.slice oo n2 co) (.slice ok n3 ck))).toList _ OS.out.o.range Tryz.underlying46 (by rfl) (by kernel_rfl) ?_) | fail)
    refine (N1 _).out.mono ?_
    rintro e w1 ⟨rfl, hb⟩
    clear l0 z0
    replace BE := Lib.hid (BE.out.trans (hb.mono BE.out.size))
    replace OS := Lib.hid (OS.out.later hb)
    clear hb
    have l0 := OS.out.o.cell
    have z0 := OS.out.o.lt
    go_wp2_with fail
    go_ret
    exact ⟨ret_bool (by simp), BE.out⟩
  · cases bB
    · go_enter Tryz.func25, Tryz.ntmps25
      go_wp2_with (first | (refine wpList_load_mid (by rfl) 46 _ (by rfl) w.heap.size 0 (by rfl) ((stA s (.slice of_ s.f.kids.length cf) (.slice os n1 cs) (.slice oo n2 co) (.slice ok n3 ck))).toList _ OS.out.o.range Tryz.underlying46 (by rfl) (by kernel_rfl) ?_) | fail)
      refine (N1 _).out.mono ?_
      rintro e w1 ⟨rfl, hb⟩
      clear l0 z0
      replace BE := Lib.hid (BE.out.trans (hb.mono BE.out.size))
      replace OS := Lib.hid (OS.out.later hb)
      clear hb
      have l0 := OS.out.o.cell
      have z0 := OS.out.o.lt
      go_wp2_with fail
      refine (N2 _ OS.out.w.lf).out.mono ?_
      rintro e w2 ⟨rfl, hb⟩
      clear l0 z0
      replace BE := Lib.hid (BE.out.trans (hb.mono BE.out.size))
      replace OS := Lib.hid (OS.out.later hb)
      clear hb
      have l0 := OS.out.o.cell
      have z0 := OS.out.o.lt
      go_wp2_with fail
      go_ret
      exact ⟨ret_bool (by simp), BE.out⟩
    · cases bC
      · go_enter Tryz.func25, Tryz.ntmps25
        go_wp2_with (first | (refine wpList_load_mid (by rfl) 46 _ (by rfl) w.heap.size 0 (by rfl) ((stA s (.slice of_ s.f.kids.length cf) (.slice os n1 cs) (.slice oo n2 co) (.slice ok n3 ck))).toList _ OS.out.o.range Tryz.underlying46 (by rfl) (by kernel_rfl) ?_) | fail)
        refine (N1 _).out.mono ?_
        rintro e w1 ⟨rfl, hb⟩
        clear l0 z0
        replace BE := Lib.hid (BE.out.trans (hb.mono BE.out.size))
        replace OS := Lib.hid (OS.out.later hb)
        clear hb
        have l0 := OS.out.o.cell
        have z0 := OS.out.o.lt
        go_wp2_with fail
        refine (N2 _ OS.out.w.lf).out.mono ?_
        rintro e w2 ⟨rfl, hb⟩
        clear l0 z0
        replace BE := Lib.hid (BE.out.trans (hb.mono BE.out.size))
        replace OS := Lib.hid (OS.out.later hb)
        clear hb
        have l0 := OS.out.o.cell
        have z0 := OS.out.o.lt
        go_wp2_with (first | (refine wpList_load_mid_g (by rfl) 46 _ (by rfl) w.heap.size 0 (by rfl) ((stA s (.slice of_ s.f.kids.length cf) (.slice os n1 cs) (.slice oo n2 co) (.slice ok n3 ck))).toList _ OS.out.o.range Tryz.underlying46 (by rfl) (by kernel_rfl) ?_) | fail)
        refine (N3 _ OS.out.w).out.mono ?_
        rintro e w3 ⟨rfl, hb⟩
        clear l0 z0
        replace BE := Lib.hid (BE.out.trans (hb.mono BE.out.size))
        replace OS := Lib.hid (OS.out.later hb)
        clear hb
        have l0 := OS.out.o.cell
        have z0 := OS.out.o.lt
        go_wp2_with fail
        go_ret
        exact ⟨ret_bool (by simp), BE.out⟩
      · cases bD
        · go_enter Tryz.func25, Tryz.ntmps25
          go_wp2_with (first | (refine wpList_load_mid (by rfl) 46 _ (by rfl) w.heap.size 0 (by rfl) ((stA s (.slice of_ s.f.kids.length cf) (.slice os n1 cs) (.slice oo n2 co) (.slice ok n3 ck))).toList _ OS.out.o.range Tryz.underlying46 (by rfl) (by kernel_rfl) ?_) | fail)
          refine (N1 _).out.mono ?_
          rintro e w1 ⟨rfl, hb⟩
          clear l0 z0
          replace BE := Lib.hid (BE.out.trans (hb.mono BE.out.size))
          replace OS := Lib.hid (OS.out.later hb)
          clear hb
          have l0 := OS.out.o.cell
          have z0 := OS.out.o.lt
          go_wp2_with fail
          refine (N2 _ OS.out.w.lf).out.mono ?_
          rintro e w2 ⟨rfl, hb⟩
          clear l0 z0
          replace BE := Lib.hid (BE.out.trans (hb.mono BE.out.size))
          replace OS := Lib.hid (OS.out.later hb)
          clear hb
          have l0 := OS.out.o.cell
          have z0 := OS.out.o.lt
          go_wp2_with (first | (refine wpList_load_mid_g (by rfl) 46 _ (by rfl) w.heap.size 0 (by rfl) ((stA s (.slice of_ s.f.kids.length cf) (.slice os n1 cs) (.slice oo n2 co) (.slice ok n3 ck))).toList _ OS.out.o.range Tryz.underlying46 (by rfl) (by kernel_rfl) ?_) | fail)
          refine (N3 _ OS.out.w).out.mono ?_
          rintro e w3 ⟨rfl, hb⟩
          clear l0 z0
          replace BE := Lib.hid (BE.out.trans (hb.mono BE.out.size))
          replace OS := Lib.hid (OS.out.later hb)
          clear hb
          have l0 := OS.out.o.cell
          have z0 := OS.out.o.lt
          go_wp2_with fail
          refine (N4 _ OS.out.w.lk).out.mono ?_
          rintro e w4 ⟨rfl, hb⟩
          clear l0 z0
          replace BE := Lib.hid (BE.out.trans (hb.mono BE.out.size))
          replace OS := Lib.hid (OS.out.later hb)
          clear hb
          have l0 := OS.out.o.cell
          have z0 := OS.out.o.lt
          go_wp2_with fail
          go_ret
          exact ⟨ret_bool (by simp), BE.out⟩
        · go_enter Tryz.func25, Tryz.ntmps25
          go_wp2_with (first | (refine wpList_load_mid (by rfl) 46 _ (by rfl) w.heap.size 0 (by rfl) ((stA s (.slice of_ s.f.kids.length cf) (.slice os n1 cs) (.slice oo n2 co) (.slice ok n3 ck))).toList _ OS.out.o.range Tryz.underlying46 (by rfl) (by kernel_rfl) ?_) | fail)
          refine (N1 _).out.mono ?_
          rintro e w1 ⟨rfl, hb⟩
          clear l0 z0
          replace BE := Lib.hid (BE.out.trans (hb.mono BE.out.size))
          replace OS := Lib.hid (OS.out.later hb)
          clear hb
          have l0 := OS.out.o.cell
          have z0 := OS.out.o.lt
          go_wp2_with fail
          refine (N2 _ OS.out.w.lf).out.mono ?_
          rintro e w2 ⟨rfl, hb⟩
          clear l0 z0
          replace BE := Lib.hid (BE.out.trans (hb.mono BE.out.size))
          replace OS := Lib.hid (OS.out.later hb)
          clear hb
          have l0 := OS.out.o.cell
          have z0 := OS.out.o.lt
          go_wp2_with (first | (refine wpList_load_mid_g (by rfl) 46 _ (by rfl) w.heap.size 0 (by rfl) ((stA s (.slice of_ s.f.kids.length cf) (.slice os n1 cs) (.slice oo n2 co) (.slice ok n3 ck))).toList _ OS.out.o.range Tryz.underlying46 (by rfl) (by kernel_rfl) ?_) | fail)
          refine (N3 _ OS.out.w).out.mono ?_
          rintro e w3 ⟨rfl, hb⟩
          clear l0 z0
          replace BE := Lib.hid (BE.out.trans (hb.mono BE.out.size))
          replace OS := Lib.hid (OS.out.later hb)
          clear hb
          have l0 := OS.out.o.cell
          have z0 := OS.out.o.lt
          go_wp2_with fail
          refine (N4 _ OS.out.w.lk).out.mono ?_
          rintro e w4 ⟨rfl, hb⟩
          clear l0 z0
          replace BE := Lib.hid (BE.out.trans (hb.mono BE.out.size))
          replace OS := Lib.hid (OS.out.later hb)
          clear hb
          have l0 := OS.out.o.cell
          have z0 := OS.out.o.lt
          go_wp2_with (first | (refine wpList_load_mid_g (by rfl) 46 _ (by rfl) w.heap.size 0 (by rfl) ((stA s (.slice of_ s.f.kids.length cf) (.slice os n1 cs) (.slice oo n2 co) (.slice ok n3 ck))).toList _ OS.out.o.range Tryz.underlying46 (by rfl) (by kernel_rfl) ?_) | fail)
          refine (N5.out (by first | trivial | rfl) _ OS.out.w).out.mono ?_
          rintro e w5 ⟨rfl, hb⟩
          clear l0 z0
          replace BE := Lib.hid (BE.out.trans (hb.mono BE.out.size))
          replace OS := Lib.hid (OS.out.later hb)
          clear hb
          have l0 := OS.out.o.cell
          have z0 := OS.out.o.lt
          go_wp2_with fail
          go_ret
          exact ⟨ret_bool (by simp), BE.out⟩
end Go.Proofs.YtjkcooakddlppaaGreat
