/- Joined: ServeAsks. -/
import Derived.Test.YthbjgfennclidaaGreatJ40
import Derived.Test.YthbjgfennclidaaGreatJ41
import Derived.Test.YthbjgfennclidaaGreatJ27
import Derived.Test.YthbjgfennclidaaGreatJ30
import Derived.Test.YthbjgfennclidaaGreatJ37
/- ServeAsks: the law's walk. -/
namespace Go.Proofs.YthbjgfennclidaaGreat
set_option linter.unusedVariables false
set_option linter.unusedSimpArgs false
set_option maxRecDepth 100000
open Go Go.RowKit
theorem oksA {w : World} {l : List Itm} {v : Value} (h : Row 8 ic w l v) : ∀ i ∈ l, i.id.size ≤ maxLen ∧ i.kd.size ≤ maxLen := by
  obtain ⟨_, _, _, _, _, h⟩ := h; exact h.ok
theorem refOpen_mg (s : St) (fv sv ov kv : Value) (wth sid : Int) (w : World) (hS : StW w s fv sv ov kv) (h1 : s.store.length ≤ 1000) :
    Calls Tryz.prog 19 #[stV s fv sv ov kv, .int .i64 wth, .int .i64 sid] w fun e w' => ∃ hv', e = .returned (.tuple #[.agg (ssA (askX s wth sid) nilV nilV nilV), .agg (mgA (askO s wth sid) fv kv hv' nilV)]) ∧ MgW w' (askO s wth sid) fv kv hv' nilV ∧ Below w.heap.size w w' :=
  (refAsk_calls s fv sv ov kv wth sid w hS h1).mono fun _ _ ⟨hv, he, hs, hb⟩ => ⟨hv, he, ⟨hS.lf.later hb (Nat.le_refl _), hS.lk.later hb (Nat.le_refl _), hs.now.has (oksA hS.ls), GRow.nil⟩, hb⟩
theorem fits_or (s : St) : fitsI s = 0 ∨ fitsI s = 1 := by
  unfold fitsI smallI knownI
  split
  · exact .inl rfl
  · split <;> split <;> simp
set_option maxRecDepth 100000 in
set_option maxHeartbeats 16000000 in
theorem serveAsks_calls (s : St) (fv sv ov kv : Value) (t : St) (fu su ou ku : Value) (turn : Int) (w : World) (hS : SiW w s fv sv ov kv) (hT : SiW w t fu su ou ku) :
    Calls Tryz.prog 4 #[siV s fv sv ov kv, siV t fu su ou ku, .int .i64 turn] w fun e w' => e = .returned (.bool true) ∧ Below w.heap.size w w' := by
  obtain ⟨oq_, cq, rfl⟩ := hS.lk.val
  obtain ⟨oq2, cq2, rfl⟩ := hT.lk.val
  have HS := Lib.hid hS
  have HT := Lib.hid hT
  have CU := fun w' => Lib.hid (up12_calls w')
  have CF := fun w' h => Lib.hid (fitsS_calls s fv sv ov (.slice oq_ s.k.l.length cq) w' h)
  have CF2 := fun w' h => Lib.hid (fitsS_calls t fu su ou (.slice oq2 t.k.l.length cq2) w' h)
  have hff := fits_or s
  have hss := fits_or t
  have OS := Lib.hid ((Own.new w (siL s fv sv ov (.slice oq_ s.k.l.length cq)).toArray 33).alloc (.cells (siL t fu su ou (.slice oq2 t.k.l.length cq2)).toArray 33))
  have OT := Lib.hid (Own.newAt (w.alloc (.cells (siL s fv sv ov (.slice oq_ s.k.l.length cq)).toArray 33)) (siL t fu su ou (.slice oq2 t.k.l.length cq2)).toArray 33 (b := w.heap.size + 1) (by simp))
  have BEL := Lib.hid (((Below.refl w.heap.size w).alloc (Nat.le_refl _) (.cells (siL s fv sv ov (.slice oq_ s.k.l.length cq)).toArray 33)).alloc (by simp) (.cells (siL t fu su ou (.slice oq2 t.k.l.length cq2)).toArray 33))
  clear hS hT
  have HFI := Lib.hid (fun h => fits_is (s := s) h)
  have HSI := Lib.hid (fun h => fits_is (s := t) h)
  by_cases hz : fitsI s = 1 ∧ fitsI t = 1
  case neg =>
    have hz2 : (fitsI s = 0 ∧ fitsI t = 0) ∨ (fitsI s = 0 ∧ fitsI t = 1) ∨ (fitsI s = 1 ∧ fitsI t = 0) := by omega
    clear HFI HSI hff hss hz
    rcases hz2 with ⟨h1, h2⟩ | ⟨h1, h2⟩ | ⟨h1, h2⟩
    all_goals
      rw [h1] at CF
      rw [h2] at CF2
      clear h1 h2
      go_enter Tryz.func4, Tryz.ntmps4
      go_upto_region 2 with (go_at_call 8; refine (CU _).out.mono ?_; rintro e w1 ⟨rfl, hb⟩; replace OS := Lib.hid (OS.out.later hb); replace OT := Lib.hid (OT.out.later hb); replace BEL := Lib.hid (BEL.out.trans (Below.mono hb BEL.out.size)); clear hb)
      refine monoN_start (T := fun _ => False) (D := fun _ => false) (by kernel_rfl) (fun wd hbd => ?_)
      replace OS := Lib.hid (OS.out.later hbd)
      replace OT := Lib.hid (OT.out.later hbd)
      replace BEL := Lib.hid (BEL.out.trans (Below.mono hbd BEL.out.size))
      clear hbd
      refine monoN_stay (i := 0) (v := .agg (siL s fv sv ov (.slice oq_ s.k.l.length cq)).toArray) rfl (by kernel_rfl) (by kernel_rfl) (by kernel_rfl) (fun _ _ _ h => h) (Or.inl ⟨by rfl, fun wL hL => exec_load_mid 33 _ rfl (w.heap.size) 0 (by rfl) ((siL s fv sv ov (.slice oq_ s.k.l.length cq)).toArray : Array Value).toList _ ((OS.out.but hL (fun h => h)).part 0 _ (by rfl)) Tryz.underlying33 (by rfl) (by kernel_rfl)⟩) ?_
      try simp only [Act.put, List.getElem_toArray, List.getElem_cons_zero, List.getElem_cons_succ, List.setIfInBounds_toArray, List.set_cons_zero, List.set_cons_succ]
      refine monoN_stay (i := 2) (v := .agg (siL t fu su ou (.slice oq2 t.k.l.length cq2)).toArray) rfl (by kernel_rfl) (by kernel_rfl) (by kernel_rfl) (fun _ _ _ h => h) (Or.inl ⟨by rfl, fun wL hL => exec_load_mid 33 _ rfl ((w.heap.size + 1)) 0 (by rfl) ((siL t fu su ou (.slice oq2 t.k.l.length cq2)).toArray : Array Value).toList _ ((OT.out.but hL (fun h => h)).part 0 _ (by rfl)) Tryz.underlying33 (by rfl) (by kernel_rfl)⟩) ?_
      try simp only [Act.put, List.getElem_toArray, List.getElem_cons_zero, List.getElem_cons_succ, List.setIfInBounds_toArray, List.set_cons_zero, List.set_cons_succ]
      refine monoN_r1 (i := 1) (by kernel_rfl) ?_
      have z1OS := OS.out.lt
      have z1OT := OT.out.lt
      refine stepN_call (by rfl) (by rfl) (fun K hK => ?_)
      try simp only [List.getElem_toArray, List.getElem_cons_zero, List.getElem_cons_succ]
      (go_simp; go_at_call 9; refine (CF _ (HS.out.later BEL.out)).out.mono ?_; rintro e wc ⟨rfl, hb⟩)
      try go_wp2_with fail
      refine hK.out _ _ (fun _ => hb) (But.of hb) ?_
      clear hK K
      replace OS := Lib.hid (OS.out.later hb)
      replace OT := Lib.hid (OT.out.later hb)
      replace BEL := Lib.hid (BEL.out.trans (Below.mono hb BEL.out.size))
      clear hb
      try simp only [Act.put, List.getElem_toArray, List.getElem_cons_zero, List.getElem_cons_succ, List.setIfInBounds_toArray, List.set_cons_zero, List.set_cons_succ]
      refine monoN_r1 (i := 3) (by kernel_rfl) ?_
      have z3OS := OS.out.lt
      have z3OT := OT.out.lt
      refine stepN_call (by rfl) (by rfl) (fun K hK => ?_)
      try simp only [List.getElem_toArray, List.getElem_cons_zero, List.getElem_cons_succ]
      (go_simp; go_at_call 9; refine (CF2 _ (HT.out.later BEL.out)).out.mono ?_; rintro e wc ⟨rfl, hb⟩)
      try go_wp2_with fail
      refine hK.out _ _ (fun _ => hb) (But.of hb) ?_
      clear hK K
      replace OS := Lib.hid (OS.out.later hb)
      replace OT := Lib.hid (OT.out.later hb)
      replace BEL := Lib.hid (BEL.out.trans (Below.mono hb BEL.out.size))
      clear hb
      try simp only [Act.put, List.getElem_toArray, List.getElem_cons_zero, List.getElem_cons_succ, List.setIfInBounds_toArray, List.set_cons_zero, List.set_cons_succ]
      refine monoN_stay (i := 4) (v := ?_) rfl (by kernel_rfl) (by kernel_rfl) (by kernel_rfl) (fun _ _ _ h => h) (Or.inl ⟨by rfl, ?_⟩) ?_
      rotate_left 1
      · (intro wL hL; go_simp; try with_reducible rfl)
      try simp only [Act.put, List.getElem_toArray, List.getElem_cons_zero, List.getElem_cons_succ, List.setIfInBounds_toArray, List.set_cons_zero, List.set_cons_succ]
      refine monoN_stay (i := 5) (v := ?_) rfl (by kernel_rfl) (by kernel_rfl) (by kernel_rfl) (fun _ _ _ h => h) (Or.inl ⟨by rfl, ?_⟩) ?_
      rotate_left 1
      · (intro wL hL; go_simp; try with_reducible rfl)
      try simp only [Act.put, List.getElem_toArray, List.getElem_cons_zero, List.getElem_cons_succ, List.setIfInBounds_toArray, List.set_cons_zero, List.set_cons_succ]
      refine monoN_done (by kernel_rfl) ?_ _
      go_wp2_with fail
      go_ret
      exact ⟨rfl, BEL.out⟩
  obtain ⟨h1, h2⟩ := hz
  have HB := Lib.hid (HFI.out h1)
  have HB2 := Lib.hid (HSI.out h2)
  rw [h1] at CF
  rw [h2] at CF2
  clear h1 h2 hff hss HFI HSI
  go_enter Tryz.func4, Tryz.ntmps4
  go_upto_region 2 with (go_at_call 8; refine (CU _).out.mono ?_; rintro e w1 ⟨rfl, hb⟩; replace OS := Lib.hid (OS.out.later hb); replace OT := Lib.hid (OT.out.later hb); replace BEL := Lib.hid (BEL.out.trans (Below.mono hb BEL.out.size)); clear hb)
  go_cut [19] (fun s19 wx => s19 = .bool false ∧ Hid (Own wx w.heap.size (siL s fv sv ov (.slice oq_ s.k.l.length cq)).toArray 33 ∧ Own wx (w.heap.size + 1) (siL t fu su ou (.slice oq2 t.k.l.length cq2)).toArray 33 ∧ Below w.heap.size w wx))
  case first =>
    refine monoN_start (T := fun _ => False) (D := fun _ => false) (by kernel_rfl) (fun wd hbd => ?_)
    replace OS := Lib.hid (OS.out.later hbd)
    replace OT := Lib.hid (OT.out.later hbd)
    replace BEL := Lib.hid (BEL.out.trans (Below.mono hbd BEL.out.size))
    clear hbd
    refine monoN_stay (i := 0) (v := .agg (siL s fv sv ov (.slice oq_ s.k.l.length cq)).toArray) rfl (by kernel_rfl) (by kernel_rfl) (by kernel_rfl) (fun _ _ _ h => h) (Or.inl ⟨by rfl, fun wL hL => exec_load_mid 33 _ rfl (w.heap.size) 0 (by rfl) ((siL s fv sv ov (.slice oq_ s.k.l.length cq)).toArray : Array Value).toList _ ((OS.out.but hL (fun h => h)).part 0 _ (by rfl)) Tryz.underlying33 (by rfl) (by kernel_rfl)⟩) ?_
    try simp only [Act.put, List.getElem_toArray, List.getElem_cons_zero, List.getElem_cons_succ, List.setIfInBounds_toArray, List.set_cons_zero, List.set_cons_succ]
    refine monoN_stay (i := 2) (v := .agg (siL t fu su ou (.slice oq2 t.k.l.length cq2)).toArray) rfl (by kernel_rfl) (by kernel_rfl) (by kernel_rfl) (fun _ _ _ h => h) (Or.inl ⟨by rfl, fun wL hL => exec_load_mid 33 _ rfl ((w.heap.size + 1)) 0 (by rfl) ((siL t fu su ou (.slice oq2 t.k.l.length cq2)).toArray : Array Value).toList _ ((OT.out.but hL (fun h => h)).part 0 _ (by rfl)) Tryz.underlying33 (by rfl) (by kernel_rfl)⟩) ?_
    try simp only [Act.put, List.getElem_toArray, List.getElem_cons_zero, List.getElem_cons_succ, List.setIfInBounds_toArray, List.set_cons_zero, List.set_cons_succ]
    refine monoN_r1 (i := 1) (by kernel_rfl) ?_
    have z1OS := OS.out.lt
    have z1OT := OT.out.lt
    refine stepN_call (by rfl) (by rfl) (fun K hK => ?_)
    try simp only [List.getElem_toArray, List.getElem_cons_zero, List.getElem_cons_succ]
    (go_simp; go_at_call 9; refine (CF _ (HS.out.later BEL.out)).out.mono ?_; rintro e wc ⟨rfl, hb⟩)
    try go_wp2_with fail
    refine hK.out _ _ (fun _ => hb) (But.of hb) ?_
    clear hK K
    replace OS := Lib.hid (OS.out.later hb)
    replace OT := Lib.hid (OT.out.later hb)
    replace BEL := Lib.hid (BEL.out.trans (Below.mono hb BEL.out.size))
    clear hb
    try simp only [Act.put, List.getElem_toArray, List.getElem_cons_zero, List.getElem_cons_succ, List.setIfInBounds_toArray, List.set_cons_zero, List.set_cons_succ]
    refine monoN_r1 (i := 3) (by kernel_rfl) ?_
    have z3OS := OS.out.lt
    have z3OT := OT.out.lt
    refine stepN_call (by rfl) (by rfl) (fun K hK => ?_)
    try simp only [List.getElem_toArray, List.getElem_cons_zero, List.getElem_cons_succ]
    (go_simp; go_at_call 9; refine (CF2 _ (HT.out.later BEL.out)).out.mono ?_; rintro e wc ⟨rfl, hb⟩)
    try go_wp2_with fail
    refine hK.out _ _ (fun _ => hb) (But.of hb) ?_
    clear hK K
    replace OS := Lib.hid (OS.out.later hb)
    replace OT := Lib.hid (OT.out.later hb)
    replace BEL := Lib.hid (BEL.out.trans (Below.mono hb BEL.out.size))
    clear hb
    try simp only [Act.put, List.getElem_toArray, List.getElem_cons_zero, List.getElem_cons_succ, List.setIfInBounds_toArray, List.set_cons_zero, List.set_cons_succ]
    refine monoN_stay (i := 4) (v := ?_) rfl (by kernel_rfl) (by kernel_rfl) (by kernel_rfl) (fun _ _ _ h => h) (Or.inl ⟨by rfl, ?_⟩) ?_
    rotate_left 1
    · (intro wL hL; go_simp; try with_reducible rfl)
    try simp only [Act.put, List.getElem_toArray, List.getElem_cons_zero, List.getElem_cons_succ, List.setIfInBounds_toArray, List.set_cons_zero, List.set_cons_succ]
    refine monoN_stay (i := 5) (v := ?_) rfl (by kernel_rfl) (by kernel_rfl) (by kernel_rfl) (fun _ _ _ h => h) (Or.inl ⟨by rfl, ?_⟩) ?_
    rotate_left 1
    · (intro wL hL; go_simp; try with_reducible rfl)
    try simp only [Act.put, List.getElem_toArray, List.getElem_cons_zero, List.getElem_cons_succ, List.setIfInBounds_toArray, List.set_cons_zero, List.set_cons_succ]
    refine monoN_done (by kernel_rfl) ?_ _
    go_wp2_with fail
    go_meet
    exact ⟨rfl, Lib.hid ⟨OS.out, OT.out, BEL.out⟩⟩
  case rest =>
    obtain ⟨rfl, HR⟩ := hcut
    clear OS OT BEL CF CF2 CU
    have OS := Lib.hid HR.out.1
    have OT := Lib.hid HR.out.2.1
    have BEL := Lib.hid HR.out.2.2
    clear HR
    have CS := fun w' h => Lib.hid (state_calls s fv sv ov (.slice oq_ s.k.l.length cq) w' h HB.out.f (Nat.le_trans HB.out.ls (by decide)) (Nat.le_trans HB.out.lo (by decide)))
    have CS2 := fun w' h => Lib.hid (state_calls t fu su ou (.slice oq2 t.k.l.length cq2) w' h HB2.out.f (Nat.le_trans HB2.out.ls (by decide)) (Nat.le_trans HB2.out.lo (by decide)))
    generalize wc = wq at *
    go_upto_region 4 with fail
    go_upto_region 5 with (first
      | (refine wpList_load_mid (by rfl) 33 _ (by rfl) w.heap.size 0 (by rfl) (siL s fv sv ov (.slice oq_ s.k.l.length cq)).toArray.toList _ (by exact OS.out.part 0 _ (by rfl)) Tryz.underlying33 (by rfl) (by kernel_rfl) ?_)
      | (go_at_call 14; refine (CS _ (HS.out.later BEL.out)).out.mono ?_; rintro e w3 ⟨fx, sx, ox, rfl, hst, hb⟩; obtain ⟨og_, cg, rfl⟩ := lies_val hst.lf; obtain ⟨os_, cs, rfl⟩ := hst.ls.val; obtain ⟨oo_, co, rfl⟩ := hst.lo.val; have HA := Lib.hid hst; have O8 := Lib.hid (Own.new w3 stZ.toArray 52); replace OS := Lib.hid (OS.out.later hb); replace OT := Lib.hid (OT.out.later hb); replace BEL := Lib.hid (BEL.out.trans (Below.mono hb BEL.out.size)); clear hst hb)
      | (refine wpList_store_mid (by rfl) 52 _ _ (by rfl) w3.heap.size 0 (stA s (.slice og_ s.f.kids.length cg) (.slice os_ s.store.length cs) (.slice oo_ s.out.length co) (.slice oq_ s.k.l.length cq)) (by rfl) (by rfl) (by exact O8.out.there (by rfl)) (by kernel_rfl) (by simp [Value.oneCell']) ?_))
    have HBW : Hid (Later w3 (World.setCells (w3.alloc (.cells stZ.toArray 52)) w3.heap.size 0 (stA s (.slice og_ s.f.kids.length cg) (.slice os_ s.store.length cs) (.slice oo_ s.out.length co) (.slice oq_ s.k.l.length cq)).toList)) := Lib.hid (below_sets (Nat.le_refl _) _ _ ((Below.refl _ _).alloc (Nat.le_refl _) _))
    have OA := Lib.hid (O8.out.sets (stA s (.slice og_ s.f.kids.length cg) (.slice os_ s.store.length cs) (.slice oo_ s.out.length co) (.slice oq_ s.k.l.length cq)).toList (by rfl))
    clear O8
    revert HBW OA
    generalize World.setCells _ _ _ _ = W9
    intro HBW OA
    replace OS := Lib.hid (OS.out.later HBW.out)
    replace OT := Lib.hid (OT.out.later HBW.out)
    replace HA := Lib.hid (HA.out.later HBW.out)
    replace BEL := Lib.hid (BEL.out.trans (Below.mono HBW.out BEL.out.size))
    clear HBW
    generalize w3.heap.size = ba at *
    simp only [Act.put]
    generalize W9 = Wba at *
    go_upto_region 6 with (first
      | (refine wpList_load_mid (by rfl) 33 _ (by rfl) (w.heap.size + 1) 0 (by rfl) (siL t fu su ou (.slice oq2 t.k.l.length cq2)).toArray.toList _ (by exact OT.out.part 0 _ (by rfl)) Tryz.underlying33 (by rfl) (by kernel_rfl) ?_)
      | (go_at_call 14; refine (CS2 _ (HT.out.later BEL.out)).out.mono ?_; rintro e w3 ⟨fx, sx, ox, rfl, hst, hb⟩; obtain ⟨og2, cg2, rfl⟩ := lies_val hst.lf; obtain ⟨os2, cs2, rfl⟩ := hst.ls.val; obtain ⟨oo2, co2, rfl⟩ := hst.lo.val; have HBt := Lib.hid hst; have O8 := Lib.hid (Own.new w3 stZ.toArray 52); replace OT := Lib.hid (OT.out.later hb); replace OA := Lib.hid (OA.out.later hb); replace HA := Lib.hid (HA.out.later hb); replace BEL := Lib.hid (BEL.out.trans (Below.mono hb BEL.out.size)); clear hst hb)
      | (refine wpList_store_mid (by rfl) 52 _ _ (by rfl) w3.heap.size 0 (stA t (.slice og2 t.f.kids.length cg2) (.slice os2 t.store.length cs2) (.slice oo2 t.out.length co2) (.slice oq2 t.k.l.length cq2)) (by rfl) (by rfl) (by exact O8.out.there (by rfl)) (by kernel_rfl) (by simp [Value.oneCell']) ?_))
    have HBW : Hid (Later w3 (World.setCells (w3.alloc (.cells stZ.toArray 52)) w3.heap.size 0 (stA t (.slice og2 t.f.kids.length cg2) (.slice os2 t.store.length cs2) (.slice oo2 t.out.length co2) (.slice oq2 t.k.l.length cq2)).toList)) := Lib.hid (below_sets (Nat.le_refl _) _ _ ((Below.refl _ _).alloc (Nat.le_refl _) _))
    have OB := Lib.hid (O8.out.sets (stA t (.slice og2 t.f.kids.length cg2) (.slice os2 t.store.length cs2) (.slice oo2 t.out.length co2) (.slice oq2 t.k.l.length cq2)).toList (by rfl))
    clear O8
    revert HBW OB
    generalize World.setCells _ _ _ _ = W9
    intro HBW OB
    replace OT := Lib.hid (OT.out.later HBW.out)
    replace OA := Lib.hid (OA.out.later HBW.out)
    replace HA := Lib.hid (HA.out.later HBW.out)
    replace HBt := Lib.hid (HBt.out.later HBW.out)
    replace BEL := Lib.hid (BEL.out.trans (Below.mono HBW.out BEL.out.size))
    clear HBW
    generalize w3.heap.size = bb at *
    simp only [Act.put]
    generalize W9 = Wbb at *
    clear OS OT CS CS2
    have CY := fun w' h => Lib.hid (refMayS_calls s (.slice og_ s.f.kids.length cg) (.slice os_ s.store.length cs) (.slice oo_ s.out.length co) (.slice oq_ s.k.l.length cq) w' h HB.out)
    have CY2 := fun w' h => Lib.hid (refMayS_calls t (.slice og2 t.f.kids.length cg2) (.slice os2 t.store.length cs2) (.slice oo2 t.out.length co2) (.slice oq2 t.k.l.length cq2) w' h HB2.out)
    cases hm1 : mayS s
    · rw [hm1] at CY
      clear hm1
      go_wp2_with (first | (refine wpList_load_mid (by rfl) 52 _ (by rfl) ba 0 (by rfl) (stA s (.slice og_ s.f.kids.length cg) (.slice os_ s.store.length cs) (.slice oo_ s.out.length co) (.slice oq_ s.k.l.length cq)).toList _ (by exact OA.out.part 0 _ (by rfl)) Tryz.underlying52 (by rfl) (by kernel_rfl) ?_) | (go_at_call 15; refine (CY _ HA.out).out.mono ?_; clear CY; rintro e w5 ⟨rfl, hb⟩; replace OA := Lib.hid (OA.out.later hb); replace OB := Lib.hid (OB.out.later hb); replace HA := Lib.hid (HA.out.later hb); replace HBt := Lib.hid (HBt.out.later hb); replace BEL := Lib.hid (BEL.out.trans (Below.mono hb BEL.out.size)); clear hb))
      go_ret
      exact ⟨rfl, BEL.out⟩
    rw [hm1] at CY
    cases hm2 : mayS t
    · rw [hm2] at CY2
      clear hm1 hm2
      go_wp2_with (first | (refine wpList_load_mid (by rfl) 52 _ (by rfl) ba 0 (by rfl) (stA s (.slice og_ s.f.kids.length cg) (.slice os_ s.store.length cs) (.slice oo_ s.out.length co) (.slice oq_ s.k.l.length cq)).toList _ (by exact OA.out.part 0 _ (by rfl)) Tryz.underlying52 (by rfl) (by kernel_rfl) ?_) | (refine wpList_load_mid_g (by rfl) 52 _ (by rfl) bb 0 (by rfl) (stA t (.slice og2 t.f.kids.length cg2) (.slice os2 t.store.length cs2) (.slice oo2 t.out.length co2) (.slice oq2 t.k.l.length cq2)).toList _ (by exact OB.out.part 0 _ (by rfl)) Tryz.underlying52 (by rfl) (by kernel_rfl) ?_) | (go_at_call 15; refine (CY _ HA.out).out.mono ?_; clear CY; rintro e w5 ⟨rfl, hb⟩; replace OA := Lib.hid (OA.out.later hb); replace OB := Lib.hid (OB.out.later hb); replace HA := Lib.hid (HA.out.later hb); replace HBt := Lib.hid (HBt.out.later hb); replace BEL := Lib.hid (BEL.out.trans (Below.mono hb BEL.out.size)); clear hb) | (go_at_call 15; refine (CY2 _ HBt.out).out.mono ?_; clear CY2; rintro e w6 ⟨rfl, hb⟩; replace OA := Lib.hid (OA.out.later hb); replace OB := Lib.hid (OB.out.later hb); replace HA := Lib.hid (HA.out.later hb); replace HBt := Lib.hid (HBt.out.later hb); replace BEL := Lib.hid (BEL.out.trans (Below.mono hb BEL.out.size)); clear hb))
      go_ret
      exact ⟨rfl, BEL.out⟩
    rw [hm2] at CY2
    have HG := Lib.hid (mayS_iff.1 hm2)
    clear hm1 hm2
    go_upto_region 9 with (first | (refine wpList_load_mid (by rfl) 52 _ (by rfl) ba 0 (by rfl) (stA s (.slice og_ s.f.kids.length cg) (.slice os_ s.store.length cs) (.slice oo_ s.out.length co) (.slice oq_ s.k.l.length cq)).toList _ (by exact OA.out.part 0 _ (by rfl)) Tryz.underlying52 (by rfl) (by kernel_rfl) ?_) | (refine wpList_load_mid_g (by rfl) 52 _ (by rfl) bb 0 (by rfl) (stA t (.slice og2 t.f.kids.length cg2) (.slice os2 t.store.length cs2) (.slice oo2 t.out.length co2) (.slice oq2 t.k.l.length cq2)).toList _ (by exact OB.out.part 0 _ (by rfl)) Tryz.underlying52 (by rfl) (by kernel_rfl) ?_) | (go_at_call 15; refine (CY _ HA.out).out.mono ?_; clear CY; rintro e w5 ⟨rfl, hb⟩; replace OA := Lib.hid (OA.out.later hb); replace OB := Lib.hid (OB.out.later hb); replace HA := Lib.hid (HA.out.later hb); replace HBt := Lib.hid (HBt.out.later hb); replace BEL := Lib.hid (BEL.out.trans (Below.mono hb BEL.out.size)); clear hb) | (go_at_call 15; refine (CY2 _ HBt.out).out.mono ?_; clear CY2; rintro e w6 ⟨rfl, hb⟩; replace OA := Lib.hid (OA.out.later hb); replace OB := Lib.hid (OB.out.later hb); replace HA := Lib.hid (HA.out.later hb); replace HBt := Lib.hid (HBt.out.later hb); replace BEL := Lib.hid (BEL.out.trans (Below.mono hb BEL.out.size)); clear hb))
    have CO := fun w' h => Lib.hid (refOpen_mg s (.slice og_ s.f.kids.length cg) (.slice os_ s.store.length cs) (.slice oo_ s.out.length co) (.slice oq_ s.k.l.length cq) t.r 5 w' h (Nat.le_trans HB.out.ls (by decide)))
    have c0 : w6.cell? ⟨bb, 0, none⟩ = some (.int .i64 t.r) := OB.out.cell 0
    have zb := OB.out.lt
    go_upto_region 10 with (first
      | (refine wpList_load_mid (by rfl) 52 _ (by rfl) ba 0 (by rfl) (stA s (.slice og_ s.f.kids.length cg) (.slice os_ s.store.length cs) (.slice oo_ s.out.length co) (.slice oq_ s.k.l.length cq)).toList _ (by exact OA.out.part 0 _ (by rfl)) Tryz.underlying52 (by rfl) (by kernel_rfl) ?_)
      | (go_at_call 19; refine (CO _ HA.out).out.mono ?_; rintro e w1 ⟨hv1, rfl, hs, hb⟩; obtain ⟨oh_, ch, rfl⟩ := hs.lh.val; have HM := Lib.hid (show MgW w1 (askO s t.r 5) (.slice og_ s.f.kids.length cg) (.slice oq_ s.k.l.length cq) (.slice oh_ s.store.length ch) nilV from hs); have OT1 := Lib.hid ((Own.new w1 ssZ 61).alloc (.cells mgZ 47)); clear c0 zb; replace OB := Lib.hid (OB.out.later hb); replace HBt := Lib.hid (HBt.out.later hb); replace BEL := Lib.hid (BEL.out.trans (Below.mono hb BEL.out.size)); clear hs hb; generalize hX1 : Value.agg (ssA (askX s t.r 5) nilV nilV nilV) = X1; generalize hX2 : Value.agg (mgA (askO s t.r 5) (.slice og_ s.f.kids.length cg) (.slice oq_ s.k.l.length cq) (.slice oh_ (askO s t.r 5).has.length ch) nilV) = X2; have HX1 := Lib.hid hX1.symm; have HX2 := Lib.hid (show X2 = .agg (mgA (askO s t.r 5) (.slice og_ s.f.kids.length cg) (.slice oq_ s.k.l.length cq) (.slice oh_ s.store.length ch) nilV) from hX2.symm); clear hX1 hX2)
      | (show wpList _ _ _ ({ dst := none, op := Op.store _ _ _, type := _, pos := _, after := _, guard := _ } :: _) _ _; (refine wpList_store_mid (by rfl) 61 _ _ (by rfl) w1.heap.size 0 (ssA (askX s t.r 5) nilV nilV nilV) (by rfl) (by exact HX1.out) (by exact OT1.out.there (by rfl)) (by kernel_rfl) (by simp [Value.oneCell']) ?_); (refine wpList_store_mid (by rfl) 47 _ _ (by rfl) (w1.heap.size + 1) 0 (mgA (askO s t.r 5) (.slice og_ s.f.kids.length cg) (.slice oq_ s.k.l.length cq) (.slice oh_ s.store.length ch) nilV) (by rfl) (by exact HX2.out) (by exact (two_there w1 ssZ mgZ 61 47 (ssA (askX s t.r 5) nilV nilV nilV).toList).there (by rfl)) (by kernel_rfl) (by simp [Value.oneCell']) ?_)))
    have HK := Lib.hid (two_new w1 ssZ mgZ 61 47 (ssA (askX s t.r 5) nilV nilV nilV).toList (mgA (askO s t.r 5) (.slice og_ s.f.kids.length cg) (.slice oq_ s.k.l.length cq) (.slice oh_ s.store.length ch) nilV).toList (by rfl) (by rfl))
    clear OT1
    revert HK
    generalize World.setCells (World.setCells _ _ _ _) _ _ _ = W7
    intro HK
    have OM := Lib.hid HK.out.2.1
    replace HM := Lib.hid (HM.out.later HK.out.2.2)
    replace HBt := Lib.hid (HBt.out.later HK.out.2.2)
    replace OB := Lib.hid (OB.out.later HK.out.2.2)
    replace BEL := Lib.hid (BEL.out.trans (Below.mono HK.out.2.2 BEL.out.size))
    clear HK HA OA CO
    generalize w1.heap.size + 1 = bm at *
    try simp only [Act.put]
    have CA := fun w' h h' => Lib.hid (srvAnswer_calls t (askO s t.r 5) turn (.slice og2 t.f.kids.length cg2) (.slice os2 t.store.length cs2) (.slice oo2 t.out.length co2) (.slice oq2 t.k.l.length cq2) (.slice og_ s.f.kids.length cg) (.slice oq_ s.k.l.length cq) (.slice oh_ s.store.length ch) nilV w' h h' HG.out.rs HG.out.ro HB2.out.ls HB2.out.lo (Nat.le_trans HB2.out.f (by decide)) (Nat.le_trans HB.out.f (by decide)) (Nat.le_trans HB.out.ki (by decide)) (Nat.le_trans HB.out.ls (by decide)) (Nat.le_trans HB2.out.kl (by decide)) (Nat.le_trans HB2.out.ki (by decide)))
    have CR := fun w' h h' => Lib.hid (refAnswer_calls (fun _ => False) t (askO s t.r 5) turn (.slice og2 t.f.kids.length cg2) (.slice os2 t.store.length cs2) (.slice oo2 t.out.length co2) (.slice oq2 t.k.l.length cq2) (.slice og_ s.f.kids.length cg) (.slice oq_ s.k.l.length cq) (.slice oh_ s.store.length ch) nilV w' (sureF h) (fun _ h => h.elim) h' HB2.out.ls HB2.out.lo (Nat.le_trans HB2.out.f (by decide)) (Nat.le_trans HB.out.f (by decide)) (Nat.le_trans HB.out.ki (by decide)) (Nat.le_trans HB.out.ls (by decide)))
    have CALL := fun L1 L2 a b w' h h' => Lib.hid (all12_calls (ansM t (askO s t.r 5) turn) L1 L2 a b w' h h' (ans_ok HG.out _ turn (Nat.le_trans HB.out.ls (by decide))))
    generalize ansM t (askO s t.r 5) turn = AM at *
    generalize W7 = W9 at *
    have BE9 := Lib.hid (Below.refl W9.heap.size W9)
    refine monoN_start (T := fun _ => False) (D := fun _ => false) (by kernel_rfl) (fun wd hbd => ?_)
    replace OB := Lib.hid (OB.out.later hbd)
    replace OM := Lib.hid (OM.out.later hbd)
    replace BEL := Lib.hid (BEL.out.trans (Below.mono hbd BEL.out.size))
    replace BE9 := Lib.hid (BE9.out.trans (Below.mono hbd BE9.out.size))
    clear hbd
    refine monoN_stay (i := 0) (v := ?_) rfl (by kernel_rfl) (by kernel_rfl) (by kernel_rfl) (fun _ _ _ h => h) (Or.inl ⟨by rfl, ?_⟩) ?_
    rotate_left 1
    · (intro wL hL; go_simp; try with_reducible rfl)
    try simp only [Act.put, List.getElem_toArray, List.getElem_cons_zero, List.getElem_cons_succ, List.setIfInBounds_toArray, List.set_cons_zero, List.set_cons_succ]
    refine monoN_stay (i := 1) (v := ?_) rfl (by kernel_rfl) (by kernel_rfl) (by kernel_rfl) (fun _ _ _ h => h) (Or.inl ⟨by rfl, ?_⟩) ?_
    rotate_left 1
    · (intro wL hL; go_simp; try with_reducible rfl)
    try simp only [Act.put, List.getElem_toArray, List.getElem_cons_zero, List.getElem_cons_succ, List.setIfInBounds_toArray, List.set_cons_zero, List.set_cons_succ]
    refine monoN_stay (i := 2) (v := .agg (stA t (.slice og2 t.f.kids.length cg2) (.slice os2 t.store.length cs2) (.slice oo2 t.out.length co2) (.slice oq2 t.k.l.length cq2))) rfl (by kernel_rfl) (by kernel_rfl) (by kernel_rfl) (fun _ _ _ h => h) (Or.inl ⟨by rfl, fun wL hL => exec_load_mid 52 _ rfl (bb) 0 (by rfl) ((stA t (.slice og2 t.f.kids.length cg2) (.slice os2 t.store.length cs2) (.slice oo2 t.out.length co2) (.slice oq2 t.k.l.length cq2)) : Array Value).toList _ ((OB.out.but hL (fun h => h)).part 0 _ (by rfl)) Tryz.underlying52 (by rfl) (by kernel_rfl)⟩) ?_
    try simp only [Act.put, List.getElem_toArray, List.getElem_cons_zero, List.getElem_cons_succ, List.setIfInBounds_toArray, List.set_cons_zero, List.set_cons_succ]
    refine monoN_stay (i := 3) (v := .agg (mgA (askO s t.r 5) (.slice og_ s.f.kids.length cg) (.slice oq_ s.k.l.length cq) (.slice oh_ s.store.length ch) nilV)) rfl (by kernel_rfl) (by kernel_rfl) (by kernel_rfl) (fun _ _ _ h => h) (Or.inl ⟨by rfl, fun wL hL => exec_load_mid 47 _ rfl (bm) 0 (by rfl) ((mgA (askO s t.r 5) (.slice og_ s.f.kids.length cg) (.slice oq_ s.k.l.length cq) (.slice oh_ s.store.length ch) nilV) : Array Value).toList _ ((OM.out.but hL (fun h => h)).part 0 _ (by rfl)) Tryz.underlying47 (by rfl) (by kernel_rfl)⟩) ?_
    try simp only [Act.put, List.getElem_toArray, List.getElem_cons_zero, List.getElem_cons_succ, List.setIfInBounds_toArray, List.set_cons_zero, List.set_cons_succ]
    refine monoN_stay (i := 4) (v := ?_) rfl (by kernel_rfl) (by kernel_rfl) (by kernel_rfl) (fun _ _ _ h => h) (Or.inl ⟨by rfl, ?_⟩) ?_
    rotate_left 1
    · (intro wL hL; go_simp; try with_reducible rfl)
    try simp only [Act.put, List.getElem_toArray, List.getElem_cons_zero, List.getElem_cons_succ, List.setIfInBounds_toArray, List.set_cons_zero, List.set_cons_succ]
    refine monoN_stay (i := 6) (v := .agg (stA t (.slice og2 t.f.kids.length cg2) (.slice os2 t.store.length cs2) (.slice oo2 t.out.length co2) (.slice oq2 t.k.l.length cq2))) rfl (by kernel_rfl) (by kernel_rfl) (by kernel_rfl) (fun _ _ _ h => h) (Or.inl ⟨by rfl, fun wL hL => exec_load_mid 52 _ rfl (bb) 0 (by rfl) ((stA t (.slice og2 t.f.kids.length cg2) (.slice os2 t.store.length cs2) (.slice oo2 t.out.length co2) (.slice oq2 t.k.l.length cq2)) : Array Value).toList _ ((OB.out.but hL (fun h => h)).part 0 _ (by rfl)) Tryz.underlying52 (by rfl) (by kernel_rfl)⟩) ?_
    try simp only [Act.put, List.getElem_toArray, List.getElem_cons_zero, List.getElem_cons_succ, List.setIfInBounds_toArray, List.set_cons_zero, List.set_cons_succ]
    refine monoN_stay (i := 7) (v := .agg (mgA (askO s t.r 5) (.slice og_ s.f.kids.length cg) (.slice oq_ s.k.l.length cq) (.slice oh_ s.store.length ch) nilV)) rfl (by kernel_rfl) (by kernel_rfl) (by kernel_rfl) (fun _ _ _ h => h) (Or.inl ⟨by rfl, fun wL hL => exec_load_mid 47 _ rfl (bm) 0 (by rfl) ((mgA (askO s t.r 5) (.slice og_ s.f.kids.length cg) (.slice oq_ s.k.l.length cq) (.slice oh_ s.store.length ch) nilV) : Array Value).toList _ ((OM.out.but hL (fun h => h)).part 0 _ (by rfl)) Tryz.underlying47 (by rfl) (by kernel_rfl)⟩) ?_
    try simp only [Act.put, List.getElem_toArray, List.getElem_cons_zero, List.getElem_cons_succ, List.setIfInBounds_toArray, List.set_cons_zero, List.set_cons_succ]
    refine monoN_stay (i := 8) (v := ?_) rfl (by kernel_rfl) (by kernel_rfl) (by kernel_rfl) (fun _ _ _ h => h) (Or.inl ⟨by rfl, ?_⟩) ?_
    rotate_left 1
    · (intro wL hL; go_simp; try with_reducible rfl)
    try simp only [Act.put, List.getElem_toArray, List.getElem_cons_zero, List.getElem_cons_succ, List.setIfInBounds_toArray, List.set_cons_zero, List.set_cons_succ]
    refine monoN_r1 (i := 5) (by kernel_rfl) ?_
    have z5OB := OB.out.lt
    have z5OM := OM.out.lt
    refine stepN_callG (by rfl) (by rfl) (fun K hK => ?_)
    try simp only [List.getElem_toArray, List.getElem_cons_zero, List.getElem_cons_succ]
    (go_simp; go_at_call 17; refine (CA _ (HBt.out.later BE9.out) (HM.out.later BE9.out)).out.mono ?_; rintro e wc ⟨v38, L1, rfl, h38, hb⟩)
    try go_wp2_with fail
    refine hK.out _ _ (fun _ => hb) (But.of hb) ?_
    clear hK K
    replace OB := Lib.hid (OB.out.later hb)
    replace OM := Lib.hid (OM.out.later hb)
    replace BEL := Lib.hid (BEL.out.trans (Below.mono hb BEL.out.size))
    replace BE9 := Lib.hid (BE9.out.trans (Below.mono hb BE9.out.size))
    have R38 := Lib.hid h38
    clear h38
    clear hb
    try simp only [Act.put, List.getElem_toArray, List.getElem_cons_zero, List.getElem_cons_succ, List.setIfInBounds_toArray, List.set_cons_zero, List.set_cons_succ]
    refine monoN_r1 (i := 9) (by kernel_rfl) ?_
    have z9OB := OB.out.lt
    have z9OM := OM.out.lt
    refine stepN_callG (by rfl) (by rfl) (fun K hK => ?_)
    try simp only [List.getElem_toArray, List.getElem_cons_zero, List.getElem_cons_succ]
    (go_simp; go_at_call 18; refine (CR _ (HBt.out.later BE9.out) (HM.out.later BE9.out)).out.mono ?_; rintro e wc ⟨v42, L2, rfl, h42, hb⟩)
    try go_wp2_with fail
    refine hK.out _ _ (fun _ => hb) (But.of hb) ?_
    clear hK K
    replace OB := Lib.hid (OB.out.later hb)
    replace OM := Lib.hid (OM.out.later hb)
    replace BEL := Lib.hid (BEL.out.trans (Below.mono hb BEL.out.size))
    replace BE9 := Lib.hid (BE9.out.trans (Below.mono hb BE9.out.size))
    replace R38 := Lib.hid (R38.out.later hb)
    have R42 := Lib.hid h42.now
    clear h42
    clear hb
    try simp only [Act.put, List.getElem_toArray, List.getElem_cons_zero, List.getElem_cons_succ, List.setIfInBounds_toArray, List.set_cons_zero, List.set_cons_succ]
    refine monoN_r1 (i := 10) (by kernel_rfl) ?_
    have z10OB := OB.out.lt
    have z10OM := OM.out.lt
    refine stepN_callG (by rfl) (by rfl) (fun K hK => ?_)
    try simp only [List.getElem_toArray, List.getElem_cons_zero, List.getElem_cons_succ]
    (go_simp; go_at_call 16; refine (CALL L1 L2 v38 v42 _ R38.out R42.out).out.mono ?_; rintro e wc ⟨rfl, hb⟩)
    try go_wp2_with fail
    refine hK.out _ _ (fun _ => hb) (But.of hb) ?_
    clear hK K
    replace OB := Lib.hid (OB.out.later hb)
    replace OM := Lib.hid (OM.out.later hb)
    replace BEL := Lib.hid (BEL.out.trans (Below.mono hb BEL.out.size))
    replace BE9 := Lib.hid (BE9.out.trans (Below.mono hb BE9.out.size))
    replace R38 := Lib.hid (R38.out.later hb)
    replace R42 := Lib.hid (R42.out.later hb)
    clear hb
    try simp only [Act.put, List.getElem_toArray, List.getElem_cons_zero, List.getElem_cons_succ, List.setIfInBounds_toArray, List.set_cons_zero, List.set_cons_succ]
    refine monoN_stay (i := 11) (v := ?_) rfl (by kernel_rfl) (by kernel_rfl) (by kernel_rfl) (fun _ _ _ h => h) (Or.inl ⟨by rfl, ?_⟩) ?_
    rotate_left 1
    · (intro wL hL; go_simp; try with_reducible rfl)
    try simp only [Act.put, List.getElem_toArray, List.getElem_cons_zero, List.getElem_cons_succ, List.setIfInBounds_toArray, List.set_cons_zero, List.set_cons_succ]
    refine monoN_stay (i := 12) (v := ?_) rfl (by kernel_rfl) (by kernel_rfl) (by kernel_rfl) (fun _ _ _ h => h) (Or.inl ⟨by rfl, ?_⟩) ?_
    rotate_left 1
    · (intro wL hL; go_simp; try with_reducible rfl)
    try simp only [Act.put, List.getElem_toArray, List.getElem_cons_zero, List.getElem_cons_succ, List.setIfInBounds_toArray, List.set_cons_zero, List.set_cons_succ]
    refine monoN_stay (i := 13) (v := ?_) rfl (by kernel_rfl) (by kernel_rfl) (by kernel_rfl) (fun _ _ _ h => h) (Or.inl ⟨by rfl, ?_⟩) ?_
    rotate_left 1
    · (intro wL hL; go_simp; try with_reducible rfl)
    try simp only [Act.put, List.getElem_toArray, List.getElem_cons_zero, List.getElem_cons_succ, List.setIfInBounds_toArray, List.set_cons_zero, List.set_cons_succ]
    refine monoN_done (by kernel_rfl) ?_ _
    go_wp2_with fail
    go_ret
    exact ⟨rfl, BEL.out⟩
end Go.Proofs.YthbjgfennclidaaGreat
