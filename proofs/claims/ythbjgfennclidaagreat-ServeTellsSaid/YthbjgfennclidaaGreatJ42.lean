/- Joined: ServeTells. -/
import Derived.Test.YthbjgfennclidaaGreatJ40
import Derived.Test.YthbjgfennclidaaGreatJ41
import Derived.Test.YthbjgfennclidaaGreatJ27
import Derived.Test.YthbjgfennclidaaGreatJ30
/- ServeTells: the law's walk. -/
namespace Go.Proofs.YthbjgfennclidaaGreat
set_option linter.unusedVariables false
set_option linter.unusedSimpArgs false
set_option maxRecDepth 100000
open Go Go.RowKit
set_option maxRecDepth 100000 in
set_option maxHeartbeats 16000000 in
theorem serveTells_calls (s : St) (fv sv ov kv : Value) (m : Mg) (gf gk gh gl : Value) (turn : Int) (w : World) (hS : SiW w s fv sv ov kv) (hN : NoW w m gf gk gh gl) :
    Calls Tryz.prog 3 #[siV s fv sv ov kv, .agg (noA m gf gk gh gl), .int .i64 turn] w fun e w' => e = .returned (.bool true) ∧ Below w.heap.size w w' := by
  obtain ⟨oq_, cq, rfl⟩ := hS.lk.val
  obtain ⟨ok_, ck, rfl⟩ := hN.lk.val
  obtain ⟨oh_, ch, rfl⟩ := hN.lh.val
  have HS := Lib.hid hS
  have HN := Lib.hid hN
  have CU := fun w' => Lib.hid (up12_calls w')
  have CF := fun w' h => Lib.hid (fitsS_calls s fv sv ov (.slice oq_ s.k.l.length cq) w' h)
  have CSH := fun w' h => Lib.hid (short_calls m gf (.slice ok_ m.k.l.length ck) (.slice oh_ m.has.length ch) gl w' h)
  have hff : fitsI s = 0 ∨ fitsI s = 1 := by
    unfold fitsI smallI knownI
    split
    · exact .inl rfl
    · split <;> split <;> simp
  have hss := short_or m
  have OS := Lib.hid ((Own.new w (siL s fv sv ov (.slice oq_ s.k.l.length cq)).toArray 33).alloc (.cells (noA m gf (.slice ok_ m.k.l.length ck) (.slice oh_ m.has.length ch) gl) 37))
  have ON := Lib.hid (Own.newAt (w.alloc (.cells (siL s fv sv ov (.slice oq_ s.k.l.length cq)).toArray 33)) (noA m gf (.slice ok_ m.k.l.length ck) (.slice oh_ m.has.length ch) gl) 37 (b := w.heap.size + 1) (by simp))
  have BEL := Lib.hid (((Below.refl w.heap.size w).alloc (Nat.le_refl _) (.cells (siL s fv sv ov (.slice oq_ s.k.l.length cq)).toArray 33)).alloc (by simp) (.cells (noA m gf (.slice ok_ m.k.l.length ck) (.slice oh_ m.has.length ch) gl) 37))
  clear hS hN
  have HFI := Lib.hid (fun h => fits_is (s := s) h)
  have HSI := Lib.hid (fun h => short_is (m := m) h)
  by_cases hz : fitsI s = 1 ∧ shortI m = 1
  case neg =>
    have hz2 : (fitsI s = 0 ∧ shortI m = 0) ∨ (fitsI s = 0 ∧ shortI m = 1) ∨ (fitsI s = 1 ∧ shortI m = 0) := by omega
    clear HFI HSI hff hss hz
    rcases hz2 with ⟨h1, h2⟩ | ⟨h1, h2⟩ | ⟨h1, h2⟩
    all_goals
      rw [h1] at CF
      rw [h2] at CSH
      clear h1 h2
      go_enter Tryz.func3, Tryz.ntmps3
      go_upto_region 2 with (go_at_call 8; refine (CU _).out.mono ?_; rintro e w1 ⟨rfl, hb⟩; replace OS := Lib.hid (OS.out.later hb); replace ON := Lib.hid (ON.out.later hb); replace BEL := Lib.hid (BEL.out.trans (hb.mono BEL.out.size)); clear hb)
      refine monoN_start (T := fun _ => False) (D := fun _ => false) (by kernel_rfl) (fun wd hbd => ?_)
      replace OS := Lib.hid (OS.out.later hbd)
      replace ON := Lib.hid (ON.out.later hbd)
      replace BEL := Lib.hid (BEL.out.trans (Below.mono hbd BEL.out.size))
      clear hbd
      refine monoN_stay (i := 0) (v := .agg (siL s fv sv ov (.slice oq_ s.k.l.length cq)).toArray) rfl (by kernel_rfl) (by kernel_rfl) (by kernel_rfl) (fun _ _ _ h => h) (Or.inl ⟨by rfl, fun wL hL => exec_load_mid 33 _ rfl (w.heap.size) 0 (by rfl) ((siL s fv sv ov (.slice oq_ s.k.l.length cq)).toArray : Array Value).toList _ ((OS.out.but hL (fun h => h)).part 0 _ (by rfl)) Tryz.underlying33 (by rfl) (by kernel_rfl)⟩) ?_
      try simp only [Act.put, List.getElem_toArray, List.getElem_cons_zero, List.getElem_cons_succ, List.setIfInBounds_toArray, List.set_cons_zero, List.set_cons_succ]
      refine monoN_stay (i := 2) (v := .agg (noA m gf (.slice ok_ m.k.l.length ck) (.slice oh_ m.has.length ch) gl)) rfl (by kernel_rfl) (by kernel_rfl) (by kernel_rfl) (fun _ _ _ h => h) (Or.inl ⟨by rfl, fun wL hL => exec_load_mid 37 _ rfl ((w.heap.size + 1)) 0 (by rfl) ((noA m gf (.slice ok_ m.k.l.length ck) (.slice oh_ m.has.length ch) gl) : Array Value).toList _ ((ON.out.but hL (fun h => h)).part 0 _ (by rfl)) Tryz.underlying37 (by rfl) (by kernel_rfl)⟩) ?_
      try simp only [Act.put, List.getElem_toArray, List.getElem_cons_zero, List.getElem_cons_succ, List.setIfInBounds_toArray, List.set_cons_zero, List.set_cons_succ]
      refine monoN_r1 (i := 1) (by kernel_rfl) ?_
      have z1OS := OS.out.lt
      have z1ON := ON.out.lt
      refine stepN_call (by rfl) (by rfl) (fun K hK => ?_)
      try simp only [List.getElem_toArray, List.getElem_cons_zero, List.getElem_cons_succ]
      (go_simp; go_at_call 9; refine (CF _ (HS.out.later BEL.out)).out.mono ?_; rintro e wc ⟨rfl, hb⟩)
      try go_wp2_with fail
      refine hK.out _ _ (fun _ => hb) (But.of hb) ?_
      clear hK K
      replace OS := Lib.hid (OS.out.later hb)
      replace ON := Lib.hid (ON.out.later hb)
      replace BEL := Lib.hid (BEL.out.trans (Below.mono hb BEL.out.size))
      clear hb
      try simp only [Act.put, List.getElem_toArray, List.getElem_cons_zero, List.getElem_cons_succ, List.setIfInBounds_toArray, List.set_cons_zero, List.set_cons_succ]
      refine monoN_r1 (i := 3) (by kernel_rfl) ?_
      have z3OS := OS.out.lt
      have z3ON := ON.out.lt
      refine stepN_call (by rfl) (by rfl) (fun K hK => ?_)
      try simp only [List.getElem_toArray, List.getElem_cons_zero, List.getElem_cons_succ]
      (go_simp; go_at_call 10; refine (CSH _ (HN.out.later BEL.out)).out.mono ?_; rintro e wc ⟨rfl, hb⟩)
      try go_wp2_with fail
      refine hK.out _ _ (fun _ => hb) (But.of hb) ?_
      clear hK K
      replace OS := Lib.hid (OS.out.later hb)
      replace ON := Lib.hid (ON.out.later hb)
      replace BEL := Lib.hid (BEL.out.trans (Below.mono hb BEL.out.size))
      clear hb
      try simp only [Act.put, List.getElem_toArray, List.getElem_cons_zero, List.getElem_cons_succ, List.setIfInBounds_toArray, List.set_cons_zero, List.set_cons_succ]
      refine monoN_stay (i := 4) (v := ?_) rfl (by kernel_rfl) (by kernel_rfl) (by kernel_rfl) (fun _ _ _ h => h) (Or.inl ⟨by rfl, ?_⟩) ?_
      rotate_left 1
      · (intro wL hL; go_simp; try with_reducible rfl)
      try simp only [Act.put, List.getElem_toArray, List.getElem_cons_zero, List.getElem_cons_succ, List.setIfInBounds_toArray, List.set_cons_zero, List.set_cons_succ]
      refine monoN_stay (i := 5) (v := ?_) rfl (by kernel_rfl) (by kernel_rfl) (by kernel_rfl) (fun _ _ _ h => h) (Or.inl ⟨by rfl, ?_⟩) ?_
      rotate_left 1
      · (intro wL hL; go_simp; try with_reducible rfl)
      try simp only [Act.put, List.getElem_toArray, List.getElem_cons_zero, List.getElem_cons_succ, List.setIfInBounds_toArray, List.set_cons_zero, List.set_cons_succ]
      refine monoN_done (by kernel_rfl) ?_ _
      go_wp2_with fail
      go_ret
      exact ⟨rfl, BEL.out⟩
  obtain ⟨h1, h2⟩ := hz
  have HB := Lib.hid (HFI.out h1)
  have HSM := Lib.hid (HSI.out h2)
  rw [h1] at CF
  rw [h2] at CSH
  clear h1 h2 hff hss HFI HSI
  go_enter Tryz.func3, Tryz.ntmps3
  go_upto_region 2 with (go_at_call 8; refine (CU _).out.mono ?_; rintro e w1 ⟨rfl, hb⟩; replace OS := Lib.hid (OS.out.later hb); replace ON := Lib.hid (ON.out.later hb); replace BEL := Lib.hid (BEL.out.trans (hb.mono BEL.out.size)); clear hb)
  go_cut [17] (fun s17 wx => s17 = .bool false ∧ Hid (Own wx w.heap.size (siL s fv sv ov (.slice oq_ s.k.l.length cq)).toArray 33 ∧ Own wx (w.heap.size + 1) (noA m gf (.slice ok_ m.k.l.length ck) (.slice oh_ m.has.length ch) gl) 37 ∧ Below w.heap.size w wx))
  case first =>
    refine monoN_start (T := fun _ => False) (D := fun _ => false) (by kernel_rfl) (fun wd hbd => ?_)
    replace OS := Lib.hid (OS.out.later hbd)
    replace ON := Lib.hid (ON.out.later hbd)
    replace BEL := Lib.hid (BEL.out.trans (Below.mono hbd BEL.out.size))
    clear hbd
    refine monoN_stay (i := 0) (v := .agg (siL s fv sv ov (.slice oq_ s.k.l.length cq)).toArray) rfl (by kernel_rfl) (by kernel_rfl) (by kernel_rfl) (fun _ _ _ h => h) (Or.inl ⟨by rfl, fun wL hL => exec_load_mid 33 _ rfl (w.heap.size) 0 (by rfl) ((siL s fv sv ov (.slice oq_ s.k.l.length cq)).toArray : Array Value).toList _ ((OS.out.but hL (fun h => h)).part 0 _ (by rfl)) Tryz.underlying33 (by rfl) (by kernel_rfl)⟩) ?_
    try simp only [Act.put, List.getElem_toArray, List.getElem_cons_zero, List.getElem_cons_succ, List.setIfInBounds_toArray, List.set_cons_zero, List.set_cons_succ]
    refine monoN_stay (i := 2) (v := .agg (noA m gf (.slice ok_ m.k.l.length ck) (.slice oh_ m.has.length ch) gl)) rfl (by kernel_rfl) (by kernel_rfl) (by kernel_rfl) (fun _ _ _ h => h) (Or.inl ⟨by rfl, fun wL hL => exec_load_mid 37 _ rfl ((w.heap.size + 1)) 0 (by rfl) ((noA m gf (.slice ok_ m.k.l.length ck) (.slice oh_ m.has.length ch) gl) : Array Value).toList _ ((ON.out.but hL (fun h => h)).part 0 _ (by rfl)) Tryz.underlying37 (by rfl) (by kernel_rfl)⟩) ?_
    try simp only [Act.put, List.getElem_toArray, List.getElem_cons_zero, List.getElem_cons_succ, List.setIfInBounds_toArray, List.set_cons_zero, List.set_cons_succ]
    refine monoN_r1 (i := 1) (by kernel_rfl) ?_
    have z1OS := OS.out.lt
    have z1ON := ON.out.lt
    refine stepN_call (by rfl) (by rfl) (fun K hK => ?_)
    try simp only [List.getElem_toArray, List.getElem_cons_zero, List.getElem_cons_succ]
    (go_simp; go_at_call 9; refine (CF _ (HS.out.later BEL.out)).out.mono ?_; rintro e wc ⟨rfl, hb⟩)
    try go_wp2_with fail
    refine hK.out _ _ (fun _ => hb) (But.of hb) ?_
    clear hK K
    replace OS := Lib.hid (OS.out.later hb)
    replace ON := Lib.hid (ON.out.later hb)
    replace BEL := Lib.hid (BEL.out.trans (Below.mono hb BEL.out.size))
    clear hb
    try simp only [Act.put, List.getElem_toArray, List.getElem_cons_zero, List.getElem_cons_succ, List.setIfInBounds_toArray, List.set_cons_zero, List.set_cons_succ]
    refine monoN_r1 (i := 3) (by kernel_rfl) ?_
    have z3OS := OS.out.lt
    have z3ON := ON.out.lt
    refine stepN_call (by rfl) (by rfl) (fun K hK => ?_)
    try simp only [List.getElem_toArray, List.getElem_cons_zero, List.getElem_cons_succ]
    (go_simp; go_at_call 10; refine (CSH _ (HN.out.later BEL.out)).out.mono ?_; rintro e wc ⟨rfl, hb⟩)
    try go_wp2_with fail
    refine hK.out _ _ (fun _ => hb) (But.of hb) ?_
    clear hK K
    replace OS := Lib.hid (OS.out.later hb)
    replace ON := Lib.hid (ON.out.later hb)
    replace BEL := Lib.hid (BEL.out.trans (Below.mono hb BEL.out.size))
    clear hb
    try simp only [Act.put, List.getElem_toArray, List.getElem_cons_zero, List.getElem_cons_succ, List.setIfInBounds_toArray, List.set_cons_zero, List.set_cons_succ]
    refine monoN_stay (i := 4) (v := ?_) rfl (by kernel_rfl) (by kernel_rfl) (by kernel_rfl) (fun _ _ _ h => h) (Or.inl ⟨by rfl, ?_⟩) ?_
    rotate_left 1
    · (intro wL hL; go_simp; try with_reducible rfl)
    try simp only [Act.put, List.getElem_toArray, List.getElem_cons_zero, List.getElem_cons_succ, List.setIfInBounds_toArray, List.set_cons_zero, List.set_cons_succ]
    refine monoN_stay (i := 5) (v := ?_) rfl (by kernel_rfl) (by kernel_rfl) (by kernel_rfl) (fun _ _ _ h => h) (Or.inl ⟨by rfl, ?_⟩) ?_
    rotate_left 1
    · (intro wL hL; go_simp; try with_reducible rfl)
    try simp only [Act.put, List.getElem_toArray, List.getElem_cons_zero, List.getElem_cons_succ, List.setIfInBounds_toArray, List.set_cons_zero, List.set_cons_succ]
    refine monoN_done (by kernel_rfl) ?_ _
    go_wp2_with fail
    go_meet
    exact ⟨rfl, Lib.hid ⟨OS.out, ON.out, BEL.out⟩⟩
  case rest =>
    obtain ⟨rfl, HR⟩ := hcut
    clear OS ON BEL CF CSH CU
    have OS := Lib.hid HR.out.1
    have ON := Lib.hid HR.out.2.1
    have BEL := Lib.hid HR.out.2.2
    clear HR
    have CMG := fun w' h => Lib.hid (lawMsg_calls m gf (.slice ok_ m.k.l.length ck) (.slice oh_ m.has.length ch) gl w' h HSM.out.2.2.1 (Nat.le_trans HSM.out.2.1 (by decide)))
    have CS := fun w' h => Lib.hid (state_calls s fv sv ov (.slice oq_ s.k.l.length cq) w' h HB.out.f (Nat.le_trans HB.out.ls (by decide)) (Nat.le_trans HB.out.lo (by decide)))
    generalize wc = wq at *
    go_upto_region 4 with fail
    go_upto_region 5 with (first
      | (refine wpList_load_mid (by rfl) 37 _ (by rfl) (w.heap.size + 1) 0 (by rfl) (noA m gf (.slice ok_ m.k.l.length ck) (.slice oh_ m.has.length ch) gl).toList _ (ON.out.part 0 _ (by rfl)) Tryz.underlying37 (by rfl) (by kernel_rfl) ?_)
      | (go_at_call 11; refine (CMG _ (HN.out.later BEL.out)).out.mono ?_; rintro e w3 ⟨fx, lx, rfl, hm, hb⟩; obtain ⟨of_, cf, rfl⟩ := lies_val hm.lf; obtain ⟨ol_, cl, rfl⟩ := hm.ll.val; have HM := Lib.hid hm; have O8 := Lib.hid (Own.new w3 mgZ 47); replace OS := Lib.hid (OS.out.later hb); replace ON := Lib.hid (ON.out.later hb); replace BEL := Lib.hid (BEL.out.trans (hb.mono BEL.out.size)); clear hm hb)
      | (refine wpList_store_mid (by rfl) 47 _ _ (by rfl) w3.heap.size 0 (mgA m (.slice of_ m.f.kids.length cf) (.slice ok_ m.k.l.length ck) (.slice oh_ m.has.length ch) (.slice ol_ m.l.length cl)) (by rfl) (by rfl) (O8.out.there (by rfl)) (by kernel_rfl) (by simp [Value.oneCell']) ?_))
    have HBW : Hid (Later w3 (World.setCells (w3.alloc (.cells mgZ 47)) w3.heap.size 0 (mgA m (.slice of_ m.f.kids.length cf) (.slice ok_ m.k.l.length ck) (.slice oh_ m.has.length ch) (.slice ol_ m.l.length cl)).toList)) := Lib.hid (below_sets (Nat.le_refl _) _ _ ((Below.refl _ _).alloc (Nat.le_refl _) _))
    have OM := Lib.hid (O8.out.sets (mgA m (.slice of_ m.f.kids.length cf) (.slice ok_ m.k.l.length ck) (.slice oh_ m.has.length ch) (.slice ol_ m.l.length cl)).toList (by rfl))
    clear O8 CMG ON
    revert HBW OM
    generalize World.setCells _ _ _ _ = W5
    intro HBW OM
    replace OS := Lib.hid (OS.out.later HBW.out)
    replace HM := Lib.hid (HM.out.later HBW.out)
    replace BEL := Lib.hid (BEL.out.trans (HBW.out.mono BEL.out.size))
    clear HBW
    generalize w3.heap.size = bm at *
    have BE5 := Lib.hid (Below.refl W5.heap.size W5)
    have CM1 := fun w' h => Lib.hid (srvMay_calls m (.slice of_ m.f.kids.length cf) (.slice ok_ m.k.l.length ck) (.slice oh_ m.has.length ch) (.slice ol_ m.l.length cl) w' h (Nat.le_trans HSM.out.2.2.2.2 (by decide)))
    have CM2 := fun w' h => Lib.hid (refMayM_calls m (.slice of_ m.f.kids.length cf) (.slice ok_ m.k.l.length ck) (.slice oh_ m.has.length ch) (.slice ol_ m.l.length cl) w' h (Nat.le_trans HSM.out.2.2.1 (by decide)) (Nat.le_trans HSM.out.2.2.2.2 (by decide)))
    generalize mayM m = mm at *
    simp only [Act.put]
    go_cut [25] (fun s25 wx => s25 = .bool false ∧ Hid (Own wx w.heap.size (siL s fv sv ov (.slice oq_ s.k.l.length cq)).toArray 33 ∧ Own wx bm (mgA m (.slice of_ m.f.kids.length cf) (.slice ok_ m.k.l.length ck) (.slice oh_ m.has.length ch) (.slice ol_ m.l.length cl)) 47 ∧ Below W5.heap.size W5 wx ∧ Below w.heap.size w wx))
    case first =>
      refine monoN_start (T := fun _ => False) (D := fun _ => false) (by kernel_rfl) (fun wd hbd => ?_)
      replace OS := Lib.hid (OS.out.later hbd)
      replace OM := Lib.hid (OM.out.later hbd)
      replace BEL := Lib.hid (BEL.out.trans (Below.mono hbd BEL.out.size))
      replace BE5 := Lib.hid (BE5.out.trans (Below.mono hbd BE5.out.size))
      clear hbd
      refine monoN_stay (i := 0) (v := .agg (mgA m (.slice of_ m.f.kids.length cf) (.slice ok_ m.k.l.length ck) (.slice oh_ m.has.length ch) (.slice ol_ m.l.length cl))) rfl (by kernel_rfl) (by kernel_rfl) (by kernel_rfl) (fun _ _ _ h => h) (Or.inl ⟨by rfl, fun wL hL => exec_load_mid 47 _ rfl (bm) 0 (by rfl) ((mgA m (.slice of_ m.f.kids.length cf) (.slice ok_ m.k.l.length ck) (.slice oh_ m.has.length ch) (.slice ol_ m.l.length cl)) : Array Value).toList _ ((OM.out.but hL (fun h => h)).part 0 _ (by rfl)) Tryz.underlying47 (by rfl) (by kernel_rfl)⟩) ?_
      try simp only [Act.put, List.getElem_toArray, List.getElem_cons_zero, List.getElem_cons_succ, List.setIfInBounds_toArray, List.set_cons_zero, List.set_cons_succ]
      refine monoN_stay (i := 2) (v := .agg (mgA m (.slice of_ m.f.kids.length cf) (.slice ok_ m.k.l.length ck) (.slice oh_ m.has.length ch) (.slice ol_ m.l.length cl))) rfl (by kernel_rfl) (by kernel_rfl) (by kernel_rfl) (fun _ _ _ h => h) (Or.inl ⟨by rfl, fun wL hL => exec_load_mid 47 _ rfl (bm) 0 (by rfl) ((mgA m (.slice of_ m.f.kids.length cf) (.slice ok_ m.k.l.length ck) (.slice oh_ m.has.length ch) (.slice ol_ m.l.length cl)) : Array Value).toList _ ((OM.out.but hL (fun h => h)).part 0 _ (by rfl)) Tryz.underlying47 (by rfl) (by kernel_rfl)⟩) ?_
      try simp only [Act.put, List.getElem_toArray, List.getElem_cons_zero, List.getElem_cons_succ, List.setIfInBounds_toArray, List.set_cons_zero, List.set_cons_succ]
      refine monoN_r1 (i := 1) (by kernel_rfl) ?_
      have z1OS := OS.out.lt
      have z1OM := OM.out.lt
      refine stepN_call (by rfl) (by rfl) (fun K hK => ?_)
      try simp only [List.getElem_toArray, List.getElem_cons_zero, List.getElem_cons_succ]
      (go_simp; go_at_call 12; refine (CM1 _ (HM.out.later BE5.out)).out.mono ?_; rintro e wc ⟨rfl, hb⟩)
      try go_wp2_with fail
      refine hK.out _ _ (fun _ => hb) (But.of hb) ?_
      clear hK K
      replace OS := Lib.hid (OS.out.later hb)
      replace OM := Lib.hid (OM.out.later hb)
      replace BEL := Lib.hid (BEL.out.trans (Below.mono hb BEL.out.size))
      replace BE5 := Lib.hid (BE5.out.trans (Below.mono hb BE5.out.size))
      clear hb
      try simp only [Act.put, List.getElem_toArray, List.getElem_cons_zero, List.getElem_cons_succ, List.setIfInBounds_toArray, List.set_cons_zero, List.set_cons_succ]
      refine monoN_r1 (i := 3) (by kernel_rfl) ?_
      have z3OS := OS.out.lt
      have z3OM := OM.out.lt
      refine stepN_call (by rfl) (by rfl) (fun K hK => ?_)
      try simp only [List.getElem_toArray, List.getElem_cons_zero, List.getElem_cons_succ]
      (go_simp; go_at_call 13; refine (CM2 _ (HM.out.later BE5.out)).out.mono ?_; rintro e wc ⟨rfl, hb⟩)
      try go_wp2_with fail
      refine hK.out _ _ (fun _ => hb) (But.of hb) ?_
      clear hK K
      replace OS := Lib.hid (OS.out.later hb)
      replace OM := Lib.hid (OM.out.later hb)
      replace BEL := Lib.hid (BEL.out.trans (Below.mono hb BEL.out.size))
      replace BE5 := Lib.hid (BE5.out.trans (Below.mono hb BE5.out.size))
      clear hb
      try simp only [Act.put, List.getElem_toArray, List.getElem_cons_zero, List.getElem_cons_succ, List.setIfInBounds_toArray, List.set_cons_zero, List.set_cons_succ]
      refine monoN_stay (i := 4) (v := ?_) rfl (by kernel_rfl) (by kernel_rfl) (by kernel_rfl) (fun _ _ _ h => h) (Or.inl ⟨by rfl, ?_⟩) ?_
      rotate_left 1
      · (intro wL hL; go_simp; try with_reducible rfl)
      try simp only [Act.put, List.getElem_toArray, List.getElem_cons_zero, List.getElem_cons_succ, List.setIfInBounds_toArray, List.set_cons_zero, List.set_cons_succ]
      refine monoN_done (by kernel_rfl) ?_ _
      go_wp2_with fail
      go_meet
      exact ⟨by simp, Lib.hid ⟨OS.out, OM.out, BE5.out, BEL.out⟩⟩
    case rest =>
      obtain ⟨rfl, HR⟩ := hcut
      clear OS OM BEL BE5 CM1 CM2
      have OS := Lib.hid HR.out.1
      have OM := Lib.hid HR.out.2.1
      have BEL := Lib.hid HR.out.2.2.2
      replace HM := Lib.hid (HM.out.later HR.out.2.2.1)
      clear HR
      generalize wc = wr at *
      go_upto_region 7 with fail
      go_upto_region 8 with (first
        | (refine wpList_load_mid (by rfl) 33 _ (by rfl) w.heap.size 0 (by rfl) (siL s fv sv ov (.slice oq_ s.k.l.length cq)).toArray.toList _ (OS.out.part 0 _ (by rfl)) Tryz.underlying33 (by rfl) (by kernel_rfl) ?_)
        | (go_at_call 14; refine (CS _ (HS.out.later BEL.out)).out.mono ?_; rintro e w3 ⟨fx, sx, ox, rfl, hst, hb⟩; obtain ⟨og_, cg, rfl⟩ := lies_val hst.lf; obtain ⟨os_, cs, rfl⟩ := hst.ls.val; obtain ⟨oo_, co, rfl⟩ := hst.lo.val; have HST := Lib.hid hst; have O8 := Lib.hid (Own.new w3 stZ.toArray 52); replace OM := Lib.hid (OM.out.later hb); replace HM := Lib.hid (HM.out.later hb); replace BEL := Lib.hid (BEL.out.trans (hb.mono BEL.out.size)); clear hst hb)
        | (refine wpList_store_mid (by rfl) 52 _ _ (by rfl) w3.heap.size 0 (stA s (.slice og_ s.f.kids.length cg) (.slice os_ s.store.length cs) (.slice oo_ s.out.length co) (.slice oq_ s.k.l.length cq)) (by rfl) (by rfl) (O8.out.there (by rfl)) (by kernel_rfl) (by simp [Value.oneCell']) ?_))
      have HBW : Hid (Later w3 (World.setCells (w3.alloc (.cells stZ.toArray 52)) w3.heap.size 0 (stA s (.slice og_ s.f.kids.length cg) (.slice os_ s.store.length cs) (.slice oo_ s.out.length co) (.slice oq_ s.k.l.length cq)).toList)) := Lib.hid (below_sets (Nat.le_refl _) _ _ ((Below.refl _ _).alloc (Nat.le_refl _) _))
      have OST := Lib.hid (O8.out.sets (stA s (.slice og_ s.f.kids.length cg) (.slice os_ s.store.length cs) (.slice oo_ s.out.length co) (.slice oq_ s.k.l.length cq)).toList (by rfl))
      clear O8 CS OS
      revert HBW OST
      generalize World.setCells _ _ _ _ = W9
      intro HBW OST
      replace OM := Lib.hid (OM.out.later HBW.out)
      replace HM := Lib.hid (HM.out.later HBW.out)
      replace HST := Lib.hid (HST.out.later HBW.out)
      replace BEL := Lib.hid (BEL.out.trans (HBW.out.mono BEL.out.size))
      clear HBW
      generalize w3.heap.size = bs at *
      simp only [Act.put]
      have CY := fun w' h => Lib.hid (refMayS_calls s (.slice og_ s.f.kids.length cg) (.slice os_ s.store.length cs) (.slice oo_ s.out.length co) (.slice oq_ s.k.l.length cq) w' h HB.out)
      cases hmay : mayS s
      · rw [hmay] at CY
        clear hmay
        go_wp2_with (first | (refine wpList_load_mid (by rfl) 52 _ (by rfl) bs 0 (by rfl) (stA s (.slice og_ s.f.kids.length cg) (.slice os_ s.store.length cs) (.slice oo_ s.out.length co) (.slice oq_ s.k.l.length cq)).toList _ (OST.out.part 0 _ (by rfl)) Tryz.underlying52 (by rfl) (by kernel_rfl) ?_) | (go_at_call 15; refine (CY _ HST.out).out.mono ?_; rintro e w5 ⟨rfl, hb⟩; replace BEL := Lib.hid (BEL.out.trans (hb.mono BEL.out.size)); clear hb))
        go_ret
        exact ⟨rfl, BEL.out⟩
      · rw [hmay] at CY
        have HG := Lib.hid (mayS_iff.1 hmay)
        clear hmay
        go_upto_region 11 with (first | (refine wpList_load_mid (by rfl) 52 _ (by rfl) bs 0 (by rfl) (stA s (.slice og_ s.f.kids.length cg) (.slice os_ s.store.length cs) (.slice oo_ s.out.length co) (.slice oq_ s.k.l.length cq)).toList _ (OST.out.part 0 _ (by rfl)) Tryz.underlying52 (by rfl) (by kernel_rfl) ?_) | (go_at_call 15; refine (CY _ HST.out).out.mono ?_; rintro e w5 ⟨rfl, hb⟩; replace BEL := Lib.hid (BEL.out.trans (hb.mono BEL.out.size)); replace OM := Lib.hid (OM.out.later hb); replace OST := Lib.hid (OST.out.later hb); replace HM := Lib.hid (HM.out.later hb); replace HST := Lib.hid (HST.out.later hb); clear hb))
        clear CY
        have CA := fun w' h h' => Lib.hid (srvAnswer_calls s m turn (.slice og_ s.f.kids.length cg) (.slice os_ s.store.length cs) (.slice oo_ s.out.length co) (.slice oq_ s.k.l.length cq) (.slice of_ m.f.kids.length cf) (.slice ok_ m.k.l.length ck) (.slice oh_ m.has.length ch) (.slice ol_ m.l.length cl) w' h h' HG.out.rs HG.out.ro HB.out.ls HB.out.lo (Nat.le_trans HB.out.f (by decide)) (Nat.le_trans HSM.out.2.2.1 (by decide)) (Nat.le_trans HSM.out.2.2.2.2 (by decide)) (Nat.le_trans HSM.out.1 (by decide)) (Nat.le_trans HB.out.kl (by decide)) (Nat.le_trans HB.out.ki (by decide)))
        have CR := fun w' h h' => Lib.hid (refAnswer_calls (fun _ => False) s m turn (.slice og_ s.f.kids.length cg) (.slice os_ s.store.length cs) (.slice oo_ s.out.length co) (.slice oq_ s.k.l.length cq) (.slice of_ m.f.kids.length cf) (.slice ok_ m.k.l.length ck) (.slice oh_ m.has.length ch) (.slice ol_ m.l.length cl) w' (sureF h) (fun _ h => h.elim) h' HB.out.ls HB.out.lo (Nat.le_trans HB.out.f (by decide)) (Nat.le_trans HSM.out.2.2.1 (by decide)) (Nat.le_trans HSM.out.2.2.2.2 (by decide)) (Nat.le_trans HSM.out.1 (by decide)))
        have CALL := fun L1 L2 a b w' h h' => Lib.hid (all12_calls (ansM s m turn) L1 L2 a b w' h h' (ans_ok HG.out m turn (Nat.le_trans HSM.out.1 (by decide))))
        generalize ansM s m turn = AM at *
        generalize w5 = W9 at *
        have BE9 := Lib.hid (Below.refl W9.heap.size W9)
        refine monoN_start (T := fun _ => False) (D := fun _ => false) (by kernel_rfl) (fun wd hbd => ?_)
        replace OST := Lib.hid (OST.out.later hbd)
        replace OM := Lib.hid (OM.out.later hbd)
        replace BEL := Lib.hid (BEL.out.trans (Below.mono hbd BEL.out.size))
        replace BE9 := Lib.hid (BE9.out.trans (Below.mono hbd BE9.out.size))
        clear hbd
        refine monoN_stay (i := 0) (v := ?_) rfl (by kernel_rfl) (by kernel_rfl) (by kernel_rfl) (fun _ _ _ h => h) (Or.inl ⟨by rfl, ?_⟩) ?_
        rotate_left 1
        · (intro wL hL; go_simp; try with_reducible rfl)
        try simp only [Act.put, List.getElem_toArray, List.getElem_cons_zero, List.getElem_cons_succ, List.setIfInBounds_toArray, List.set_cons_zero, List.set_cons_succ]
        refine monoN_stay (i := 1) (v := ?_) rfl (by kernel_rfl) (by kernel_rfl) (by kernel_rfl) (fun _ _ _ h => h) (Or.inl ⟨by rfl, ?_⟩) ?_
        rotate_left 1
        · (intro wL hL; go_simp; try with_reducible rfl)
        try simp only [Act.put, List.getElem_toArray, List.getElem_cons_zero, List.getElem_cons_succ, List.setIfInBounds_toArray, List.set_cons_zero, List.set_cons_succ]
        refine monoN_stay (i := 2) (v := .agg (stA s (.slice og_ s.f.kids.length cg) (.slice os_ s.store.length cs) (.slice oo_ s.out.length co) (.slice oq_ s.k.l.length cq))) rfl (by kernel_rfl) (by kernel_rfl) (by kernel_rfl) (fun _ _ _ h => h) (Or.inl ⟨by rfl, fun wL hL => exec_load_mid 52 _ rfl (bs) 0 (by rfl) ((stA s (.slice og_ s.f.kids.length cg) (.slice os_ s.store.length cs) (.slice oo_ s.out.length co) (.slice oq_ s.k.l.length cq)) : Array Value).toList _ ((OST.out.but hL (fun h => h)).part 0 _ (by rfl)) Tryz.underlying52 (by rfl) (by kernel_rfl)⟩) ?_
        try simp only [Act.put, List.getElem_toArray, List.getElem_cons_zero, List.getElem_cons_succ, List.setIfInBounds_toArray, List.set_cons_zero, List.set_cons_succ]
        refine monoN_stay (i := 3) (v := .agg (mgA m (.slice of_ m.f.kids.length cf) (.slice ok_ m.k.l.length ck) (.slice oh_ m.has.length ch) (.slice ol_ m.l.length cl))) rfl (by kernel_rfl) (by kernel_rfl) (by kernel_rfl) (fun _ _ _ h => h) (Or.inl ⟨by rfl, fun wL hL => exec_load_mid 47 _ rfl (bm) 0 (by rfl) ((mgA m (.slice of_ m.f.kids.length cf) (.slice ok_ m.k.l.length ck) (.slice oh_ m.has.length ch) (.slice ol_ m.l.length cl)) : Array Value).toList _ ((OM.out.but hL (fun h => h)).part 0 _ (by rfl)) Tryz.underlying47 (by rfl) (by kernel_rfl)⟩) ?_
        try simp only [Act.put, List.getElem_toArray, List.getElem_cons_zero, List.getElem_cons_succ, List.setIfInBounds_toArray, List.set_cons_zero, List.set_cons_succ]
        refine monoN_stay (i := 4) (v := ?_) rfl (by kernel_rfl) (by kernel_rfl) (by kernel_rfl) (fun _ _ _ h => h) (Or.inl ⟨by rfl, ?_⟩) ?_
        rotate_left 1
        · (intro wL hL; go_simp; try with_reducible rfl)
        try simp only [Act.put, List.getElem_toArray, List.getElem_cons_zero, List.getElem_cons_succ, List.setIfInBounds_toArray, List.set_cons_zero, List.set_cons_succ]
        refine monoN_stay (i := 6) (v := .agg (stA s (.slice og_ s.f.kids.length cg) (.slice os_ s.store.length cs) (.slice oo_ s.out.length co) (.slice oq_ s.k.l.length cq))) rfl (by kernel_rfl) (by kernel_rfl) (by kernel_rfl) (fun _ _ _ h => h) (Or.inl ⟨by rfl, fun wL hL => exec_load_mid 52 _ rfl (bs) 0 (by rfl) ((stA s (.slice og_ s.f.kids.length cg) (.slice os_ s.store.length cs) (.slice oo_ s.out.length co) (.slice oq_ s.k.l.length cq)) : Array Value).toList _ ((OST.out.but hL (fun h => h)).part 0 _ (by rfl)) Tryz.underlying52 (by rfl) (by kernel_rfl)⟩) ?_
        try simp only [Act.put, List.getElem_toArray, List.getElem_cons_zero, List.getElem_cons_succ, List.setIfInBounds_toArray, List.set_cons_zero, List.set_cons_succ]
        refine monoN_stay (i := 7) (v := .agg (mgA m (.slice of_ m.f.kids.length cf) (.slice ok_ m.k.l.length ck) (.slice oh_ m.has.length ch) (.slice ol_ m.l.length cl))) rfl (by kernel_rfl) (by kernel_rfl) (by kernel_rfl) (fun _ _ _ h => h) (Or.inl ⟨by rfl, fun wL hL => exec_load_mid 47 _ rfl (bm) 0 (by rfl) ((mgA m (.slice of_ m.f.kids.length cf) (.slice ok_ m.k.l.length ck) (.slice oh_ m.has.length ch) (.slice ol_ m.l.length cl)) : Array Value).toList _ ((OM.out.but hL (fun h => h)).part 0 _ (by rfl)) Tryz.underlying47 (by rfl) (by kernel_rfl)⟩) ?_
        try simp only [Act.put, List.getElem_toArray, List.getElem_cons_zero, List.getElem_cons_succ, List.setIfInBounds_toArray, List.set_cons_zero, List.set_cons_succ]
        refine monoN_stay (i := 8) (v := ?_) rfl (by kernel_rfl) (by kernel_rfl) (by kernel_rfl) (fun _ _ _ h => h) (Or.inl ⟨by rfl, ?_⟩) ?_
        rotate_left 1
        · (intro wL hL; go_simp; try with_reducible rfl)
        try simp only [Act.put, List.getElem_toArray, List.getElem_cons_zero, List.getElem_cons_succ, List.setIfInBounds_toArray, List.set_cons_zero, List.set_cons_succ]
        refine monoN_r1 (i := 5) (by kernel_rfl) ?_
        have z5OST := OST.out.lt
        have z5OM := OM.out.lt
        refine stepN_callG (by rfl) (by rfl) (fun K hK => ?_)
        try simp only [List.getElem_toArray, List.getElem_cons_zero, List.getElem_cons_succ]
        (go_simp; go_at_call 17; refine (CA _ (HST.out.later BE9.out) (HM.out.later BE9.out)).out.mono ?_; rintro e wc ⟨v38, L1, rfl, h38, hb⟩)
        try go_wp2_with fail
        refine hK.out _ _ (fun _ => hb) (But.of hb) ?_
        clear hK K
        replace OST := Lib.hid (OST.out.later hb)
        replace OM := Lib.hid (OM.out.later hb)
        replace BEL := Lib.hid (BEL.out.trans (Below.mono hb BEL.out.size))
        replace BE9 := Lib.hid (BE9.out.trans (Below.mono hb BE9.out.size))
        have R38 := Lib.hid h38
        clear h38
        clear hb
        try simp only [Act.put, List.getElem_toArray, List.getElem_cons_zero, List.getElem_cons_succ, List.setIfInBounds_toArray, List.set_cons_zero, List.set_cons_succ]
        refine monoN_r1 (i := 9) (by kernel_rfl) ?_
        have z9OST := OST.out.lt
        have z9OM := OM.out.lt
        refine stepN_callG (by rfl) (by rfl) (fun K hK => ?_)
        try simp only [List.getElem_toArray, List.getElem_cons_zero, List.getElem_cons_succ]
        (go_simp; go_at_call 18; refine (CR _ (HST.out.later BE9.out) (HM.out.later BE9.out)).out.mono ?_; rintro e wc ⟨v42, L2, rfl, h42, hb⟩)
        try go_wp2_with fail
        refine hK.out _ _ (fun _ => hb) (But.of hb) ?_
        clear hK K
        replace OST := Lib.hid (OST.out.later hb)
        replace OM := Lib.hid (OM.out.later hb)
        replace BEL := Lib.hid (BEL.out.trans (Below.mono hb BEL.out.size))
        replace BE9 := Lib.hid (BE9.out.trans (Below.mono hb BE9.out.size))
        replace R38 := Lib.hid (R38.out.later hb)
        have R42 := Lib.hid h42.now
        clear h42
        clear hb
        try simp only [Act.put, List.getElem_toArray, List.getElem_cons_zero, List.getElem_cons_succ, List.setIfInBounds_toArray, List.set_cons_zero, List.set_cons_succ]
        refine monoN_r1 (i := 10) (by kernel_rfl) ?_
        have z10OST := OST.out.lt
        have z10OM := OM.out.lt
        refine stepN_callG (by rfl) (by rfl) (fun K hK => ?_)
        try simp only [List.getElem_toArray, List.getElem_cons_zero, List.getElem_cons_succ]
        (go_simp; go_at_call 16; refine (CALL L1 L2 v38 v42 _ R38.out R42.out).out.mono ?_; rintro e wc ⟨rfl, hb⟩)
        try go_wp2_with fail
        refine hK.out _ _ (fun _ => hb) (But.of hb) ?_
        clear hK K
        replace OST := Lib.hid (OST.out.later hb)
        replace OM := Lib.hid (OM.out.later hb)
        replace BEL := Lib.hid (BEL.out.trans (Below.mono hb BEL.out.size))
        replace BE9 := Lib.hid (BE9.out.trans (Below.mono hb BE9.out.size))
        replace R38 := Lib.hid (R38.out.later hb)
        replace R42 := Lib.hid (R42.out.later hb)
        clear hb
        try simp only [Act.put, List.getElem_toArray, List.getElem_cons_zero, List.getElem_cons_succ, List.setIfInBounds_toArray, List.set_cons_zero, List.set_cons_succ]
        refine monoN_stay (i := 11) (v := ?_) rfl (by kernel_rfl) (by kernel_rfl) (by kernel_rfl) (fun _ _ _ h => h) (Or.inl ⟨by rfl, ?_⟩) ?_
        rotate_left 1
        · (intro wL hL; go_simp; try with_reducible rfl)
        try simp only [Act.put, List.getElem_toArray, List.getElem_cons_zero, List.getElem_cons_succ, List.setIfInBounds_toArray, List.set_cons_zero, List.set_cons_succ]
        refine monoN_stay (i := 12) (v := ?_) rfl (by kernel_rfl) (by kernel_rfl) (by kernel_rfl) (fun _ _ _ h => h) (Or.inl ⟨by rfl, ?_⟩) ?_
        rotate_left 1
        · (intro wL hL; go_simp; try with_reducible rfl)
        try simp only [Act.put, List.getElem_toArray, List.getElem_cons_zero, List.getElem_cons_succ, List.setIfInBounds_toArray, List.set_cons_zero, List.set_cons_succ]
        refine monoN_stay (i := 13) (v := ?_) rfl (by kernel_rfl) (by kernel_rfl) (by kernel_rfl) (fun _ _ _ h => h) (Or.inl ⟨by rfl, ?_⟩) ?_
        rotate_left 1
        · (intro wL hL; go_simp; try with_reducible rfl)
        try simp only [Act.put, List.getElem_toArray, List.getElem_cons_zero, List.getElem_cons_succ, List.setIfInBounds_toArray, List.set_cons_zero, List.set_cons_succ]
        refine monoN_done (by kernel_rfl) ?_ _
        go_wp2_with fail
        go_ret
        exact ⟨rfl, BEL.out⟩
end Go.Proofs.YthbjgfennclidaaGreat
