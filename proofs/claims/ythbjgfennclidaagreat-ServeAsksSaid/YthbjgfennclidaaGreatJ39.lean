/- Joined: SrvZ. -/
import Derived.Test.YthbjgfennclidaaGreatJ37
import Derived.Test.YthbjgfennclidaaGreatJ36
import Derived.Test.YthbjgfennclidaaGreatJ22
import Derived.Test.YthbjgfennclidaaGreatJ34
/- serve.Answer. Walked. -/
namespace Go.Proofs.YthbjgfennclidaaGreat
set_option linter.unusedVariables false
set_option linter.unusedSimpArgs false
set_option maxRecDepth 100000
open Go Go.RowKit
theorem msZ_nil (w : World) : MsW w [] [] (.slice none 0 0) := ⟨rfl, GRow.nil, fun x hx => by cases hx⟩
theorem MsO.done {w w' : World} {B : Nat} {l : List Mg} {L : List Mv} {v v' : Value} {x : Mv} (h : MsO w B l L v) (hx : MgW w' x.m x.fv x.kv x.hv x.lv) (ho : OwnG 47 23 mvC w' B (L ++ [x]) v')
    (hg : (w.alloc (.cells (mgA x.m x.fv x.kv x.hv x.lv) 47)).grownBy w' v.ownBlock) : MsW w' (l ++ [x.m]) (L ++ [x]) v' := by
  have hb : Below w.heap.size w (w.alloc (.cells (mgA x.m x.fv x.kv x.hv x.lv) 47)) := (Below.refl _ _).alloc (Nat.le_refl _) _
  have hr := h.r.later hb
  refine ⟨by rw [List.map_append, h.e]; rfl, (ho.row (fun _ => rfl)).now, fun y hy => ?_⟩
  rcases List.mem_append.1 hy with hy | hy
  · obtain ⟨h1, h2, h3, h4, h5, h6, h7⟩ := h.x y hy
    have h1' := (h1.later hb).beside hr et_ne_mt hg
    rw [h5, h6, h7]
    exact ⟨by rw [h2]; exact noP_lies w', by rw [h3]; exact frW_nil' w', by rw [h4]; exact has_nil w', (h1'.row (fun _ => rfl)).now⟩
  · have : y = x := by simpa using hy
    subst this
    exact hx
theorem ans_end {w0 w6 w7 w8 : World} {Bq : Nat} {l : List Mg} {L : List Mv} {v v' : Value} {x : Mv} (h : MsO w6 Bq l L v) (hBq : w0.heap.size ≤ Bq) (hb : Below w6.heap.size w6 w7) (hx : Sure (fun b => b < w6.heap.size) w7 (fun w => MgW w x.m x.fv x.kv x.hv x.lv))
    (ho : OwnG 47 23 mvC w8 Bq (L ++ [x]) v') (hg : (w7.alloc (.cells (mgA x.m x.fv x.kv x.hv x.lv) 47)).grownBy w8 v.ownBlock) (hbel : Below w0.heap.size w0 w6) :
    MsW w8 (l ++ [x.m]) (L ++ [x]) v' ∧ Below w0.heap.size w0 w8 := by
  have hal : Below w7.heap.size w7 (w7.alloc (.cells (mgA x.m x.fv x.kv x.hv x.lv) 47)) := (Below.refl _ _).alloc (Nat.le_refl _) _
  have h7 : MsO w7 Bq l L v := h.but (But.of (T := fun _ => False) hb) (fun b hb => hb.elim)
  have hlt := fun k hk => World.ownsRow.lt h.r k hk
  refine ⟨h7.done (hx w8 ⟨Nat.le_trans hal.size hg.size, fun b hb7 ht => (hg.block b (Nat.lt_of_lt_of_le hb7 hal.size) (fun e => ht (hlt _ e.symm).2)).trans (hal.block b hb7)⟩) ho hg, ?_⟩
  exact ((hbel.trans (hb.mono hbel.size)).trans (hal.mono (Nat.le_trans hbel.size hb.size))).grown hg (Nat.le_trans (Nat.le_trans hbel.size hb.size) hal.size) (fun k hk => by have := (hlt k hk).1; omega)
set_option maxRecDepth 100000 in
set_option maxHeartbeats 16000000 in
theorem srvAnswer_calls (s : St) (m : Mg) (turn : Int) (gv sv ov qv fv kv hv lv : Value) (w : World) (hS : StW w s gv sv ov qv) (hM : MgW w m fv kv hv lv) (hr1 : RiseI s.store) (hr2 : RiseI s.out)
    (hs1 : s.store.length ≤ 200) (hs2 : s.out.length ≤ 200) (hsf : s.f.size ≤ 1000) (hmf : m.f.size ≤ 1000) (hmi : (flatI m.k.l).length ≤ 10000) (hmh : m.has.length ≤ 1000) (hk1 : s.k.l.length ≤ 10000) (hk2 : (flatI s.k.l).length ≤ 10000) :
    Calls Tryz.prog 17 #[stV s gv sv ov qv, .agg (mgA m fv kv hv lv), .int .i64 turn] w fun e w' => ∃ v' L, e = .returned v' ∧ MsW w' (ansM s m turn) L v' ∧ Below w.heap.size w w' := by
  obtain ⟨og_, cg, rfl⟩ := lies_val hS.lf
  obtain ⟨os_, cs, rfl⟩ := hS.ls.val
  obtain ⟨oo_, co, rfl⟩ := hS.lo.val
  obtain ⟨oq_, cq, rfl⟩ := hS.lk.val
  obtain ⟨of_, cf, rfl⟩ := lies_val hM.lf
  obtain ⟨ok_, ck, rfl⟩ := hM.lk.val
  obtain ⟨oh_, ch, rfl⟩ := hM.lh.val
  obtain ⟨ol_, cl, rfl⟩ := hM.ll.val
  have HS := Lib.hid hS
  have HM := Lib.hid hM
  have HAL : Hid ((allI s).length ≤ 400) := Lib.hid (by unfold allI; have := listMax (l := s.store) (m := s.out) (f := behT); omega)
  have HAR : Hid (RiseI (allI s)) := Lib.hid (both_rise s.out hr1)
  have CMY := fun w' h => Lib.hid (srvMay_calls m (.slice of_ m.f.kids.length cf) (.slice ok_ m.k.l.length ck) (.slice oh_ m.has.length ch) (.slice ol_ m.l.length cl) w' h hmi)
  have CB := fun w' h1 h2 => Lib.hid (listBoth_calls s.store s.out (.slice os_ s.store.length cs) (.slice oo_ s.out.length co) w' h1 h2 hr1 hr2 (by omega) (by omega))
  have CL := fun av w' h1 h2 h3 => Lib.hid (srvLacks_calls (allI s) m av (.slice of_ m.f.kids.length cf) (.slice ok_ m.k.l.length ck) (.slice oh_ m.has.length ch) (.slice ol_ m.l.length cl) w' h1 h2 h3 (by have := HAL.out; omega))
  have CV := fun av w' h1 h2 h3 => Lib.hid (srvLeaves_calls (allI s) m av (.slice of_ m.f.kids.length cf) (.slice ok_ m.k.l.length ck) (.slice oh_ m.has.length ch) (.slice ol_ m.l.length cl) w' h1 h2 h3 HAR.out (by have := HAL.out; omega) hmh)
  have CD := fun n av w' h1 h2 h3 h4 h5 => Lib.hid (srvDone_calls s m turn (allI s) n (.slice og_ s.f.kids.length cg) (.slice os_ s.store.length cs) (.slice oo_ s.out.length co) (.slice oq_ s.k.l.length cq) (.slice of_ m.f.kids.length cf) (.slice ok_ m.k.l.length ck) (.slice oh_ m.has.length ch) (.slice ol_ m.l.length cl) av w' h1 h2 h3 h4 h5 HAR.out (by have := HAL.out; omega) hmh hmf hsf hk1 hk2)
  have HH := Lib.hid hmh
  clear hS hM hr1 hr2 hs1 hs2 hsf hmf hmi hmh hk1 hk2
  have OS := Lib.hid ((Own.new w (stA s (.slice og_ s.f.kids.length cg) (.slice os_ s.store.length cs) (.slice oo_ s.out.length co) (.slice oq_ s.k.l.length cq)) 52).alloc (.cells (mgA m (.slice of_ m.f.kids.length cf) (.slice ok_ m.k.l.length ck) (.slice oh_ m.has.length ch) (.slice ol_ m.l.length cl)) 47))
  have OM := Lib.hid (Own.newAt (w.alloc (.cells (stA s (.slice og_ s.f.kids.length cg) (.slice os_ s.store.length cs) (.slice oo_ s.out.length co) (.slice oq_ s.k.l.length cq)) 52)) (mgA m (.slice of_ m.f.kids.length cf) (.slice ok_ m.k.l.length ck) (.slice oh_ m.has.length ch) (.slice ol_ m.l.length cl)) 47 (b := w.heap.size + 1) (by simp))
  have BEL := Lib.hid (((Below.refl w.heap.size w).alloc (Nat.le_refl _) (.cells (stA s (.slice og_ s.f.kids.length cg) (.slice os_ s.store.length cs) (.slice oo_ s.out.length co) (.slice oq_ s.k.l.length cq)) 52)).alloc (by simp) (.cells (mgA m (.slice of_ m.f.kids.length cf) (.slice ok_ m.k.l.length ck) (.slice oh_ m.has.length ch) (.slice ol_ m.l.length cl)) 47))
  cases hmay : mayM m
  · have E := Lib.hid (show ansM s m turn = [] by unfold ansM; rw [if_neg (by rw [hmay]; simp)])
    rw [hmay] at CMY
    clear hmay
    go_enter Tryz.func17, Tryz.ntmps17
    go_wp2_with (first | (refine wpList_load_mid (by rfl) 47 _ (by rfl) (w.heap.size + 1) 0 (by rfl) (mgA m (.slice of_ m.f.kids.length cf) (.slice ok_ m.k.l.length ck) (.slice oh_ m.has.length ch) (.slice ol_ m.l.length cl)).toList _ (OM.out.part 0 _ (by rfl)) Tryz.underlying47 (by rfl) (by kernel_rfl) ?_) | (go_at_call 12; refine (CMY _ (HM.out.later BEL.out)).out.mono ?_; rintro e w2 ⟨rfl, hb⟩; replace OM := Lib.hid (OM.out.later hb); replace OS := Lib.hid (OS.out.later hb); replace BEL := Lib.hid (BEL.out.trans (hb.mono BEL.out.size)); clear hb; have c2 : w2.cell? ⟨w.heap.size + 1, 2, none⟩ = some (.int .i64 m.dst) := OM.out.cell 2; have c0 : w2.cell? ⟨w.heap.size, 0, none⟩ = some (.int .i64 s.r) := OS.out.cell 0; have zm := OM.out.lt; have zs := OS.out.lt))
    go_ret
    exact ⟨_, [], rfl, by rw [E.out]; exact msZ_nil _, BEL.out⟩
  · rw [hmay] at CMY
    by_cases hd : m.dst = s.r
    case neg =>
      have E := Lib.hid (show ansM s m turn = [] by unfold ansM; rw [if_neg (by rintro ⟨_, h⟩; exact hd h)])
      have hd' : (m.dst != s.r) = true := by rw [bne_iff_ne]; exact hd
      clear hmay hd
      go_enter Tryz.func17, Tryz.ntmps17
      go_wp2_with (first | (refine wpList_load_mid (by rfl) 47 _ (by rfl) (w.heap.size + 1) 0 (by rfl) (mgA m (.slice of_ m.f.kids.length cf) (.slice ok_ m.k.l.length ck) (.slice oh_ m.has.length ch) (.slice ol_ m.l.length cl)).toList _ (OM.out.part 0 _ (by rfl)) Tryz.underlying47 (by rfl) (by kernel_rfl) ?_) | (go_at_call 12; refine (CMY _ (HM.out.later BEL.out)).out.mono ?_; rintro e w2 ⟨rfl, hb⟩; replace OM := Lib.hid (OM.out.later hb); replace OS := Lib.hid (OS.out.later hb); replace BEL := Lib.hid (BEL.out.trans (hb.mono BEL.out.size)); clear hb; have c2 : w2.cell? ⟨w.heap.size + 1, 2, none⟩ = some (.int .i64 m.dst) := OM.out.cell 2; have c0 : w2.cell? ⟨w.heap.size, 0, none⟩ = some (.int .i64 s.r) := OS.out.cell 0; have zm := OM.out.lt; have zs := OS.out.lt))
      go_ret
      exact ⟨_, [], rfl, by rw [E.out]; exact msZ_nil _, BEL.out⟩
    have E := Lib.hid (show ansM s m turn = batsM m turn (ansE s m) (manyE (ansE s m)) ++ [doneM s m turn (allI s) (manyE (ansE s m))] by unfold ansM; rw [if_pos ⟨hmay, hd⟩])
    have hd' : (m.dst != s.r) = false := by rw [bne_eq_false_iff_eq]; exact hd
    clear hmay hd
    go_enter Tryz.func17, Tryz.ntmps17
    go_upto_region 3 with (first | (refine wpList_load_mid (by rfl) 47 _ (by rfl) (w.heap.size + 1) 0 (by rfl) (mgA m (.slice of_ m.f.kids.length cf) (.slice ok_ m.k.l.length ck) (.slice oh_ m.has.length ch) (.slice ol_ m.l.length cl)).toList _ (OM.out.part 0 _ (by rfl)) Tryz.underlying47 (by rfl) (by kernel_rfl) ?_) | (go_at_call 12; refine (CMY _ (HM.out.later BEL.out)).out.mono ?_; rintro e w2 ⟨rfl, hb⟩; replace OM := Lib.hid (OM.out.later hb); replace OS := Lib.hid (OS.out.later hb); replace BEL := Lib.hid (BEL.out.trans (hb.mono BEL.out.size)); clear hb; have c2 : w2.cell? ⟨w.heap.size + 1, 2, none⟩ = some (.int .i64 m.dst) := OM.out.cell 2; have c0 : w2.cell? ⟨w.heap.size, 0, none⟩ = some (.int .i64 s.r) := OS.out.cell 0; have zm := OM.out.lt; have zs := OS.out.lt))
    clear c2 c0
    have c6 : w2.cell? ⟨w.heap.size, 6, none⟩ = some (.slice os_ s.store.length cs) := OS.out.cell 6
    have c7 : w2.cell? ⟨w.heap.size, 7, none⟩ = some (.slice oo_ s.out.length co) := OS.out.cell 7
    go_upto_region 4 with (go_at_call 56; refine (CB _ (HS.out.later BEL.out).ls (HS.out.later BEL.out).lo).out.mono ?_; rintro e w3 ⟨v2, rfl, hrow, hb⟩; replace OM := Lib.hid (OM.out.later hb); replace OS := Lib.hid (OS.out.later hb); replace BEL := Lib.hid (BEL.out.trans (hb.mono BEL.out.size)); clear hb)
    clear c6 c7
    obtain ⟨oa2, ca2, rfl⟩ := hrow.val
    have HA := Lib.hid (show Row 8 ic w3 (allI s) (.slice oa2 (allI s).length ca2) from hrow)
    have e2 : (bothI behT s.store s.out).length = (allI s).length := rfl
    rw [e2]
    clear hrow e2
    have d1 : w3.cell? ⟨w.heap.size + 1, 1, none⟩ = some (.int .i64 m.frm) := OM.out.cell 1
    have d2 : w3.cell? ⟨w.heap.size + 1, 2, none⟩ = some (.int .i64 m.dst) := OM.out.cell 2
    have d3 : w3.cell? ⟨w.heap.size + 1, 3, none⟩ = some (.int .i64 m.sid) := OM.out.cell 3
    have O8 := Lib.hid (Own.new w3 mgZ 47)
    go_upto_region 5 with (refine wpList_store_mid (by rfl) 47 _ _ (by rfl) w3.heap.size 0 (mgA (toM m turn) nilV nilV nilV nilV) (by rfl) (by rfl) (O8.out.there (by rfl)) (by kernel_rfl) (by simp [Value.oneCell']) ?_)
    have HB : Hid (Later w3 (World.setCells (w3.alloc (.cells mgZ 47)) w3.heap.size 0 (mgA (toM m turn) nilV nilV nilV nilV).toList)) := Lib.hid (below_sets (Nat.le_refl _) _ _ ((Below.refl _ _).alloc (Nat.le_refl _) _))
    have OT := Lib.hid (O8.out.sets (mgA (toM m turn) nilV nilV nilV nilV).toList (by rfl))
    clear O8 d1 d2 d3 zm zs
    revert HB OT
    generalize World.setCells _ _ _ _ = W5
    intro HB OT
    have z3 : w.heap.size + 1 < w3.heap.size := OM.out.lt
    replace OM := Lib.hid (OM.out.later HB.out)
    replace OS := Lib.hid (OS.out.later HB.out)
    replace BEL := Lib.hid (BEL.out.trans (HB.out.mono BEL.out.size))
    replace HA := Lib.hid (HA.out.later HB.out)
    clear HB
    generalize w3.heap.size = bt at *
    have BE5 := Lib.hid (Below.refl W5.heap.size W5)
    have zt : bt < W5.heap.size := OT.out.lt
    simp only [Act.put]
    go_cut [9] (fun s9 wx => ∃ (L : List Mv) (v41 : Value) (Bq : Nat), s9 = v41 ∧ Hid (MsO wx Bq (batsM m turn (ansE s m) (manyE (ansE s m))) L v41 ∧ w.heap.size ≤ Bq ∧ Bq ≤ wx.heap.size ∧ Own wx bt (mgA (toM m turn) nilV nilV nilV nilV) 47 ∧ Own wx (w.heap.size + 1) (mgA m (.slice of_ m.f.kids.length cf) (.slice ok_ m.k.l.length ck) (.slice oh_ m.has.length ch) (.slice ol_ m.l.length cl)) 47 ∧ Own wx w.heap.size (stA s (.slice og_ s.f.kids.length cg) (.slice os_ s.store.length cs) (.slice oo_ s.out.length co) (.slice oq_ s.k.l.length cq)) 52 ∧ Below W5.heap.size W5 wx ∧ Below w.heap.size w wx))
    case first =>
      refine monoN_start (T := fun k => W5.heap.size ≤ k) (D := fun k => k == 7) (by kernel_rfl) (fun wd hbd => ?_)
      replace OT := Lib.hid (OT.out.later hbd)
      replace OM := Lib.hid (OM.out.later hbd)
      replace OS := Lib.hid (OS.out.later hbd)
      replace BEL := Lib.hid (BEL.out.trans (Below.mono hbd BEL.out.size))
      replace BE5 := Lib.hid (BE5.out.trans (Below.mono hbd BE5.out.size))
      clear hbd
      refine monoN_stay (i := 0) (v := .agg (mgA (toM m turn) nilV nilV nilV nilV)) rfl (by kernel_rfl) (by kernel_rfl) (by kernel_rfl) (fun _ _ _ h => h) (Or.inl ⟨by rfl, fun wL hL => exec_load_mid 47 _ rfl (bt) 0 (by rfl) ((mgA (toM m turn) nilV nilV nilV nilV) : Array Value).toList _ ((OT.out.but hL (by show ¬ W5.heap.size ≤ _; omega)).part 0 _ (by rfl)) Tryz.underlying47 (by rfl) (by kernel_rfl)⟩) ?_
      try simp only [Act.put, List.getElem_toArray, List.getElem_cons_zero, List.getElem_cons_succ, List.setIfInBounds_toArray, List.set_cons_zero, List.set_cons_succ]
      refine monoN_stay (i := 1) (v := ?_) rfl (by kernel_rfl) (by kernel_rfl) (by kernel_rfl) (fun _ _ _ h => h) (Or.inl ⟨by rfl, ?_⟩) ?_
      rotate_left 1
      · (intro wL hL; go_simp; try with_reducible rfl)
      try simp only [Act.put, List.getElem_toArray, List.getElem_cons_zero, List.getElem_cons_succ, List.setIfInBounds_toArray, List.set_cons_zero, List.set_cons_succ]
      refine monoN_stay (i := 2) (v := .agg (mgA m (.slice of_ m.f.kids.length cf) (.slice ok_ m.k.l.length ck) (.slice oh_ m.has.length ch) (.slice ol_ m.l.length cl))) rfl (by kernel_rfl) (by kernel_rfl) (by kernel_rfl) (fun _ _ _ h => h) (Or.inl ⟨by rfl, fun wL hL => exec_load_mid 47 _ rfl (w.heap.size + 1) 0 (by rfl) ((mgA m (.slice of_ m.f.kids.length cf) (.slice ok_ m.k.l.length ck) (.slice oh_ m.has.length ch) (.slice ol_ m.l.length cl)) : Array Value).toList _ ((OM.out.but hL (by show ¬ W5.heap.size ≤ _; omega)).part 0 _ (by rfl)) Tryz.underlying47 (by rfl) (by kernel_rfl)⟩) ?_
      try simp only [Act.put, List.getElem_toArray, List.getElem_cons_zero, List.getElem_cons_succ, List.setIfInBounds_toArray, List.set_cons_zero, List.set_cons_succ]
      refine monoN_stay (i := 4) (v := ?_) rfl (by kernel_rfl) (by kernel_rfl) (by kernel_rfl) (fun _ _ _ h => h) (Or.inl ⟨by rfl, ?_⟩) ?_
      rotate_left 1
      · (intro wL hL; go_simp; try with_reducible rfl)
      try simp only [Act.put, List.getElem_toArray, List.getElem_cons_zero, List.getElem_cons_succ, List.setIfInBounds_toArray, List.set_cons_zero, List.set_cons_succ]
      refine monoN_stay (i := 5) (v := .agg (mgA m (.slice of_ m.f.kids.length cf) (.slice ok_ m.k.l.length ck) (.slice oh_ m.has.length ch) (.slice ol_ m.l.length cl))) rfl (by kernel_rfl) (by kernel_rfl) (by kernel_rfl) (fun _ _ _ h => h) (Or.inl ⟨by rfl, fun wL hL => exec_load_mid 47 _ rfl (w.heap.size + 1) 0 (by rfl) ((mgA m (.slice of_ m.f.kids.length cf) (.slice ok_ m.k.l.length ck) (.slice oh_ m.has.length ch) (.slice ol_ m.l.length cl)) : Array Value).toList _ ((OM.out.but hL (by show ¬ W5.heap.size ≤ _; omega)).part 0 _ (by rfl)) Tryz.underlying47 (by rfl) (by kernel_rfl)⟩) ?_
      try simp only [Act.put, List.getElem_toArray, List.getElem_cons_zero, List.getElem_cons_succ, List.setIfInBounds_toArray, List.set_cons_zero, List.set_cons_succ]
      refine monoN_r1 (i := 3) (by kernel_rfl) ?_
      have z3OT := OT.out.lt
      have z3OM := OM.out.lt
      have z3OS := OS.out.lt
      refine stepN_call (by rfl) (by rfl) (fun K hK => ?_)
      try simp only [List.getElem_toArray, List.getElem_cons_zero, List.getElem_cons_succ]
      (go_simp; go_at_call 58; refine (CL (.slice oa2 (allI s).length ca2) _ (HA.out.later BE5.out) (HM.out.later BEL.out).lf (HM.out.later BEL.out).lk).out.mono ?_; rintro e wc ⟨v36, rfl, h36, hb⟩; have zb := BE5.out.size)
      try go_wp2_with fail
      refine hK.out _ _ (fun _ => hb) (But.of hb) ?_
      clear hK K
      replace OT := Lib.hid (OT.out.later hb)
      replace OM := Lib.hid (OM.out.later hb)
      replace OS := Lib.hid (OS.out.later hb)
      replace BEL := Lib.hid (BEL.out.trans (Below.mono hb BEL.out.size))
      replace BE5 := Lib.hid (BE5.out.trans (Below.mono hb BE5.out.size))
      have R36 := Lib.hid (h36.base (base' := W5.heap.size) zb)
      clear h36 zb
      clear hb
      try simp only [Act.put, List.getElem_toArray, List.getElem_cons_zero, List.getElem_cons_succ, List.setIfInBounds_toArray, List.set_cons_zero, List.set_cons_succ]
      refine monoN_r1 (i := 6) (by kernel_rfl) ?_
      have z6OT := OT.out.lt
      have z6OM := OM.out.lt
      have z6OS := OS.out.lt
      refine stepN_call (by rfl) (by rfl) (fun K hK => ?_)
      try simp only [List.getElem_toArray, List.getElem_cons_zero, List.getElem_cons_succ]
      (go_simp; go_at_call 59; refine (CV (.slice oa2 (allI s).length ca2) _ (HA.out.later BE5.out) (HM.out.later BEL.out).lf (HM.out.later BEL.out).lh).out.mono ?_; rintro e wc ⟨v39, rfl, h39, hb⟩; have zb := BE5.out.size)
      try go_wp2_with fail
      refine hK.out _ _ (fun _ => hb) (But.of hb) ?_
      clear hK K
      replace OT := Lib.hid (OT.out.later hb)
      replace OM := Lib.hid (OM.out.later hb)
      replace OS := Lib.hid (OS.out.later hb)
      replace BEL := Lib.hid (BEL.out.trans (Below.mono hb BEL.out.size))
      replace BE5 := Lib.hid (BE5.out.trans (Below.mono hb BE5.out.size))
      replace R36 := Lib.hid (R36.out.later hb)
      have R39 := Lib.hid (h39.base (base' := W5.heap.size) zb)
      clear h39 zb
      clear hb
      try simp only [Act.put, List.getElem_toArray, List.getElem_cons_zero, List.getElem_cons_succ, List.setIfInBounds_toArray, List.set_cons_zero, List.set_cons_succ]
      refine monoN_r1 (i := 7) (by kernel_rfl) ?_
      obtain ⟨j0, hj, hy0, hy1, hy2⟩ := info_parts info_en
      obtain ⟨v40, w40, hrun, ho40, hg40⟩ := run_append_G (f := ec) (fun _ => rfl) ec_one 45 45 70 j0 _ 112 Tryz.underlying45 hj hy0 hy1 hy2 rfl (by omega) R36.out (R39.out.row (fun _ => rfl)).now (by have h1 := filter_len (allI s) (wantI m) enI; have h2 := filter_len m.has (leftB (allI s) m) (leftE (allI s)); have := HAL.out; have := HH.out; unfold lacksE leavesE; omega) (by omega) BE5.out.size
      refine stepN_ok (by rfl) (by rfl) (w1 := w40) (v := v40) (exec_append _ _ _ _ (by rfl) _ _ (by rfl) (by rfl) hrun) (fun h => by cases h) ⟨hg40.size, fun b hb hS => hg40.block b hb (fun e => hS (World.ownsRow.lt R36.out b e.symm).1)⟩ ?_
      replace OT := Lib.hid (OT.out.grown hg40 (own_ne R36.out zt))
      replace OM := Lib.hid (OM.out.grown hg40 (own_ne R36.out (by omega)))
      replace OS := Lib.hid (OS.out.grown hg40 (own_ne R36.out (by omega)))
      replace BEL := Lib.hid (BEL.out.grown hg40 BEL.out.size (fun k hk => by have := (World.ownsRow.lt R36.out k hk).1; omega))
      replace BE5 := Lib.hid (BE5.out.grown hg40 BE5.out.size (fun k hk => (World.ownsRow.lt R36.out k hk).1))
      have R40 := Lib.hid (show OwnG 70 11 ec w40 W5.heap.size (ansE s m) v40 from ho40)
      clear hj hy0 hy1 hy2 hrun ho40 hg40 R36 R39
      try simp only [Act.put, List.getElem_toArray, List.getElem_cons_zero, List.getElem_cons_succ, List.setIfInBounds_toArray, List.set_cons_zero, List.set_cons_succ]
      refine monoN_r1 (i := 8) (by kernel_rfl) ?_
      have z8OT := OT.out.lt
      have z8OM := OM.out.lt
      have z8OS := OS.out.lt
      refine stepN_call (by rfl) (by rfl) (fun K hK => ?_)
      try simp only [List.getElem_toArray, List.getElem_cons_zero, List.getElem_cons_succ]
      (go_simp; go_at_call 57; refine (batches_calls m turn (ansE s m) v40 _ (R40.out.row (fun _ => rfl)).now (by have h1 := filter_len (allI s) (wantI m) enI; have h2 := filter_len m.has (leftB (allI s) m) (leftE (allI s)); have := HAL.out; have := HH.out; unfold ansE lacksE leavesE; rw [List.length_append]; omega)).mono ?_; rintro e wc ⟨L, v41, rfl, hL, hLz, hb⟩; have zb := BE5.out.size)
      try go_wp2_with fail
      refine hK.out _ _ (fun _ => hb) (But.of hb) ?_
      clear hK K
      replace OT := Lib.hid (OT.out.later hb)
      replace OM := Lib.hid (OM.out.later hb)
      replace OS := Lib.hid (OS.out.later hb)
      replace BEL := Lib.hid (BEL.out.trans (Below.mono hb BEL.out.size))
      replace BE5 := Lib.hid (BE5.out.trans (Below.mono hb BE5.out.size))
      have HL := Lib.hid hL
      clear hL
      clear hb
      try simp only [Act.put, List.getElem_toArray, List.getElem_cons_zero, List.getElem_cons_succ, List.setIfInBounds_toArray, List.set_cons_zero, List.set_cons_succ]
      refine monoN_stay (i := 9) (v := ?_) rfl (by kernel_rfl) (by kernel_rfl) (by kernel_rfl) (fun _ _ _ h => h) (Or.inl ⟨by rfl, ?_⟩) ?_
      rotate_left 1
      · (intro wL hL; go_simp; try with_reducible rfl)
      try simp only [Act.put, List.getElem_toArray, List.getElem_cons_zero, List.getElem_cons_succ, List.setIfInBounds_toArray, List.set_cons_zero, List.set_cons_succ]
      refine monoN_done (by kernel_rfl) ?_ _
      go_wp2_with fail
      go_meet
      exact ⟨L, _, _, rfl, Lib.hid ⟨HL.out, by omega, hLz, OT.out, OM.out, OS.out, BE5.out, BEL.out⟩⟩
    case rest =>
      obtain ⟨L, v41, Bq, rfl, HR⟩ := hcut
      obtain ⟨hms_, hq1, hq2, ot_, om_, os_, be5_, bel_⟩ := HR.out
      clear HR OM OS OT BEL BE5 CMY CB CL CV
      have OT := Lib.hid ot_
      have OM := Lib.hid om_
      have OS := Lib.hid os_
      have BE5 := Lib.hid be5_
      have BEL := Lib.hid bel_
      obtain ⟨oav, capv, ev⟩ := hms_.r.val
      have hLl : L.length = manyE (ansE s m) := by rw [← List.length_map (f := (·.m)), hms_.e, bats_len]
      rw [hLl] at ev
      subst ev
      have HMS := Lib.hid hms_
      have HLL := Lib.hid hLl
      have HMN : Hid (manyE (ansE s m) ≤ 2000) := Lib.hid (by
        have h1 : (ansE s m).length ≤ 1400 := by
          unfold ansE lacksE leavesE
          rw [List.length_append]
          have h1 := filter_len (allI s) (wantI m) enI
          have h2 := filter_len m.has (leftB (allI s) m) (leftE (allI s))
          have := HAL.out; have := HH.out; omega
        unfold manyE; omega)
      clear ot_ om_ os_ be5_ bel_ hms_ hLl
      generalize wc = wq at *
      generalize hnn : manyE (ansE s m) = nn at *
      have HNN := Lib.hid hnn
      clear hnn
      go_wp2_with (first | (refine wpList_load_mid (by rfl) 47 _ (by rfl) bt 0 (by rfl) (mgA (toM m turn) nilV nilV nilV nilV).toList _ (OT.out.part 0 _ (by rfl)) Tryz.underlying47 (by rfl) (by kernel_rfl) ?_) | (refine wpList_load_mid (by rfl) 52 _ (by rfl) w.heap.size 0 (by rfl) (stA s (.slice og_ s.f.kids.length cg) (.slice os_ s.store.length cs) (.slice oo_ s.out.length co) (.slice oq_ s.k.l.length cq)).toList _ (OS.out.part 0 _ (by rfl)) Tryz.underlying52 (by rfl) (by kernel_rfl) ?_) | (refine wpList_load_mid (by rfl) 47 _ (by rfl) (w.heap.size + 1) 0 (by rfl) (mgA m (.slice of_ m.f.kids.length cf) (.slice ok_ m.k.l.length ck) (.slice oh_ m.has.length ch) (.slice ol_ m.l.length cl)).toList _ (OM.out.part 0 _ (by rfl)) Tryz.underlying47 (by rfl) (by kernel_rfl) ?_) | (go_at_call 60; refine (CD nn (.slice oa2 (allI s).length ca2) _ (HS.out.later BEL.out).lf (HS.out.later BEL.out).lk (HM.out.later BEL.out).lf (HM.out.later BEL.out).lh (HA.out.later BE5.out)).out.mono ?_; rintro e w7 ⟨kv7, lv7, rfl, hx7, hb7⟩; obtain ⟨ok7, ck7, rfl⟩ := hx7.now.lk.val; obtain ⟨ol7, cl7, rfl⟩ := hx7.now.ll.val; have HX7 := Lib.hid hx7; have HB7 := Lib.hid hb7; clear hx7 hb7; have zq7 := HB7.out.size; have HR7 := Lib.hid (HMS.out.r.later HB7.out)) | (at_builtin; obtain ⟨g8, cap8, w8, hrun, ho8, hg8⟩ := run_push_mg 56 ⟨doneM s m turn (allI s) nn, nilV, .slice ok7 (doneM s m turn (allI s) nn).k.l.length ck7, nilV, .slice ol7 (doneM s m turn (allI s) nn).l.length cl7⟩ HR7.out ⟨rfl, rfl, rfl, rfl⟩ (by rw [HLL.out]; have := HMN.out; omega) (by omega); rw [HLL.out] at hrun; refine Lib.wpList_append_run _ rfl _ _ _ _ rfl _ _ rfl rfl _ _ hrun ?_; have HEND := Lib.hid (ans_end HMS.out hq1 HB7.out HX7.out ho8 hg8 BEL.out); clear hrun ho8 hg8))
      go_ret
      have hend := HEND.out
      rw [HLL.out] at hend
      exact ⟨_, rfl, ⟨_, by rw [E.out]; exact hend.1⟩, hend.2⟩
end Go.Proofs.YthbjgfennclidaaGreat
