/- Joined: AskUp, AskOpens. -/
import Derived.Test.YtjepnaefkfkpcaaJ25
import Derived.Test.YtjepnaefkfkpcaaJ23
import Derived.Test.YtjepnaefkfkpcaaJ18
import Derived.Test.YtjepnaefkfkpcaaJ24
import Derived.Test.YtjepnaefkfkpcaaJ17
import Derived.Test.YtjepnaefkfkpcaaJ19
/- Layer 11's example; a session field by field. Walked. -/
namespace Go.Proofs.Ytjepnaefkfkpcaa
set_option linter.unusedVariables false
set_option linter.unusedSimpArgs false
set_option maxRecDepth 100000
open Go Go.RowKit
set_option maxRecDepth 100000 in
set_option maxHeartbeats 8000000 in
theorem lawSess_calls (x : Ss) (gv kv lv : Value) (w : World) (hX : SsW w x gv kv lv) :
    Calls Try.prog 12 #[.agg (ssA x gv kv lv)] w fun e w' => e = .returned (.agg (ssA x gv kv lv)) ∧ Below w.heap.size w w' := by
  obtain ⟨og, cg, rfl⟩ := hX.lg.val
  obtain ⟨ok, ck, rfl⟩ := hX.lk.val
  obtain ⟨ol, cl, rfl⟩ := hX.ll.val
  clear hX
  have OA := Lib.hid ((Own.new w (ssA x (.slice og x.got.length cg) (.slice ok x.k.l.length ck) (.slice ol x.l.length cl)) 48).alloc (.cells ssZ 54))
  have OR := Lib.hid (Own.newAt (w.alloc (.cells (ssA x (.slice og x.got.length cg) (.slice ok x.k.l.length ck) (.slice ol x.l.length cl)) 48)) ssZ 54 (b := w.heap.size + 1) (by simp))
  have BEL := Lib.hid (((Below.refl w.heap.size w).alloc (Nat.le_refl _) (.cells (ssA x (.slice og x.got.length cg) (.slice ok x.k.l.length ck) (.slice ol x.l.length cl)) 48)).alloc (by simp) (.cells ssZ 54))
  have lA := OA.out.cell
  have zA := OA.out.lt
  go_enter Try.func12, Try.ntmps12
  go_wp2_with (first
    | (refine wpList_load_mid (by rfl) 31 _ (by rfl) w.heap.size 9 (by rfl) (knA x.k.star (.slice ok x.k.l.length ck)).toList _ (OA.out.part 9 _ (by rfl)) Try.underlying31 (by rfl) (by kernel_rfl) ?_)
    | (refine wpList_store_mid (by rfl) 54 _ _ (by rfl) (w.heap.size + 1) 0 (ssA x (.slice og x.got.length cg) (.slice ok x.k.l.length ck) (.slice ol x.l.length cl)) (by rfl) (by rfl) (OR.out.there (by rfl)) (by kernel_rfl) (by simp [Value.oneCell']) ?_)
    | fail)
  have HK := Lib.hid (And.intro (OR.out.sets (ssA x (.slice og x.got.length cg) (.slice ok x.k.l.length ck) (.slice ol x.l.length cl)).toList (by rfl)) (below_sets (b := w.heap.size + 1) (by omega) (ssA x (.slice og x.got.length cg) (.slice ok x.k.l.length ck) (.slice ol x.l.length cl)).toList 0 BEL.out))
  clear OA OR BEL lA zA
  revert HK
  generalize World.setCells _ _ _ _ = WW
  intro HK
  exact ret_cell (by rfl) (by rfl) (l := (ssA x (.slice og x.got.length cg) (.slice ok x.k.l.length ck) (.slice ol x.l.length cl)).toList) HK.out.1.range Try.underlying54 (by rfl) (by kernel_rfl) rfl ⟨rfl, HK.out.2⟩
def pStar : Pr := .node 1 ⟨#[]⟩ 0 0 0 []
def sStar : St := newS 1 pStar
set_option maxRecDepth 100000 in
set_option maxHeartbeats 8000000 in
theorem up11_calls (w : World) : Calls Try.prog 5 #[] w fun e w' => e = .returned (.bool true) ∧ Below w.heap.size w w' := by
  have CO0 := askOpen_calls sStar nilV nilV nilV nilV 2 7 w (newS_lies (lies_nil (by decide))) (by decide) (by decide) (by decide) (by decide)
  have hx : Hid ((askX sStar 2 7).sid = 7 ∧ (askX sStar 2 7).wth = 2) := Lib.hid ⟨rfl, rfl⟩
  have hm : Hid ((askO sStar 2 7).kind = 1 ∧ (askO sStar 2 7).frm = 1 ∧ (askO sStar 2 7).dst = 2 ∧ (askO sStar 2 7).sid = 7 ∧ (askO sStar 2 7).f.op = 1 ∧ (askO sStar 2 7).has.length = 0) := Lib.hid ⟨rfl, rfl, rfl, rfl, rfl, rfl⟩
  have CO : Hid (Calls Try.prog 9 #[.agg #[.int .i64 1, .int .i64 1, .string ⟨#[]⟩, .int .i64 0, .complex .f64 0 0, nilV, nilV, nilV, .int .i64 0, .int .i64 0, .int .i64 0, .int .i64 0, .int .i64 0, .int .i64 0, .int .i64 0, .int .i64 0, nilV, .int .i64 0, .int .i64 0, .int .i64 0], .int .i64 2, .int .i64 7] w fun e w' => ∃ fv' kv' hv', e = .returned (.tuple #[.agg (ssA (askX sStar 2 7) nilV nilV nilV), .agg (mgA (askO sStar 2 7) fv' kv' hv' nilV)]) ∧ Sure (fun b => b < w.heap.size) w' (fun w => MgW w (askO sStar 2 7) fv' kv' hv' nilV) ∧ Below w.heap.size w w') := Lib.hid CO0
  clear CO0
  generalize askX sStar 2 7 = X at *
  generalize askO sStar 2 7 = M at *
  go_enter Try.func5, Try.ntmps5
  go_upto_region 2 with (first
    | (go_at_call 9; refine CO.out.mono ?_; rintro e w1 ⟨fv, kv, hv, rfl, hs, hb⟩; obtain ⟨o3, c3, rfl⟩ := lies_val hs.now.lf; obtain ⟨o4, c4, rfl⟩ := hs.now.lk.val; obtain ⟨o5, c5, _, _, rfl, _⟩ := hs.now.lh; have BEL := Lib.hid hb; have O1 := Lib.hid ((Own.new w1 ssZ 48).alloc (.cells mgZ 51)); clear hs hb CO)
    | (refine wpList_store_mid (by rfl) 48 _ _ (by rfl) w1.heap.size 0 (ssA X nilV nilV nilV) (by rfl) (by rfl) (by exact O1.out.there (by rfl)) (by kernel_rfl) (by simp [Value.oneCell']) ?_)
    | (refine wpList_store_mid (by rfl) 51 _ _ (by rfl) (w1.heap.size + 1) 0 (mgA M (.slice o3 M.f.kids.length c3) (.slice o4 M.k.l.length c4) (.slice o5 M.has.length c5) nilV) (by rfl) (by rfl) (by exact (two_there w1 ssZ mgZ 48 51 (ssA X nilV nilV nilV).toList).there (by rfl)) (by kernel_rfl) (by simp [Value.oneCell']) ?_)
    | fail)
  have HK := Lib.hid (two_new w1 ssZ mgZ 48 51 (ssA X nilV nilV nilV).toList (mgA M (.slice o3 M.f.kids.length c3) (.slice o4 M.k.l.length c4) (.slice o5 M.has.length c5) nilV).toList (by rfl) (by rfl))
  revert HK
  generalize World.setCells (World.setCells _ _ _ _) _ _ _ = W3
  intro HK
  have l1 := HK.out.1.cell
  have z1 := HK.out.1.lt
  have l3 := HK.out.2.1.cell
  have z3 := HK.out.2.1.lt
  replace BEL := Lib.hid (BEL.out.trans (Below.mono HK.out.2.2 BEL.out.size))
  try simp only [Act.put]
  obtain ⟨x1, x2⟩ := hx.out
  obtain ⟨m1, m2, m3, m4, m5, m6⟩ := hm.out
  go_wp2_with fail
  go_ret
  exact ⟨rfl, BEL.out⟩
end Go.Proofs.Ytjepnaefkfkpcaa
/- AskOpens: the law's walk. -/
namespace Go.Proofs.Ytjepnaefkfkpcaa
set_option linter.unusedVariables false
set_option linter.unusedSimpArgs false
set_option maxRecDepth 100000
open Go Go.RowKit
theorem rowval {sz : Nat} {f : Itm → List Value} {w : World} {l : List Itm} {v : Value} (h : Row sz f w l v) : ∃ oa cap, v = .slice oa l.length cap := by obtain ⟨oa, cap, _, _, e, _⟩ := h; exact ⟨oa, cap, e⟩
theorem mayS_f {s : St} (h : mayS s = true) : Pr.mayB s.f = true := by
  unfold mayS headS at h
  simp only [Bool.and_eq_true] at h
  exact h.1.1
theorem Itm.oks {w : World} {l : List Itm} {v : Value} (h : Row 8 ic w l v) : ∀ i ∈ l, i.id.size ≤ maxLen ∧ i.kd.size ≤ maxLen := by
  obtain ⟨_, _, _, _, _, h⟩ := h; exact h.ok
theorem refAsk_mg (s : St) (fv sv ov kv : Value) (wth sid : Int) (w : World) (hS : StW w s fv sv ov kv) (h1 : s.store.length ≤ 1000) :
    Calls Try.prog 10 #[stV s fv sv ov kv, .int .i64 wth, .int .i64 sid] w fun e w' => ∃ fv' kv' hv', e = .returned (.tuple #[.agg (ssA (askX s wth sid) nilV nilV nilV), .agg (mgA (askO s wth sid) fv' kv' hv' nilV)]) ∧ MgW w' (askO s wth sid) fv' kv' hv' nilV ∧ Below w.heap.size w w' :=
  (refAsk_calls s fv sv ov kv wth sid w hS h1).mono fun _ _ ⟨hv, he, hs, hb⟩ => ⟨fv, kv, hv, he, ⟨hS.lf.later hb (Nat.le_refl _), hS.lk.later hb (Nat.le_refl _), hs.now.has (Itm.oks hS.ls), GRow.nil⟩, hb⟩
theorem askOpen_mg (s : St) (fv sv ov kv : Value) (wth sid : Int) (w : World) (hS : StW w s fv sv ov kv) (hf : s.f.size ≤ 1000) (h1 : s.store.length ≤ 1000) (hl : s.k.l.length ≤ 10000) (hi : (flatI s.k.l).length ≤ 10000) :
    Calls Try.prog 9 #[stV s fv sv ov kv, .int .i64 wth, .int .i64 sid] w fun e w' => ∃ fv' kv' hv', e = .returned (.tuple #[.agg (ssA (askX s wth sid) nilV nilV nilV), .agg (mgA (askO s wth sid) fv' kv' hv' nilV)]) ∧ MgW w' (askO s wth sid) fv' kv' hv' nilV ∧ Below w.heap.size w w' :=
  (askOpen_calls s fv sv ov kv wth sid w hS hf h1 hl hi).mono fun _ _ ⟨fv', kv', hv, he, hs, hb⟩ => ⟨fv', kv', hv, he, hs.now, hb⟩
set_option maxRecDepth 100000 in
set_option maxHeartbeats 8000000 in
theorem askOpens_calls (s : St) (fv sv ov kv : Value) (wth sid : Int) (w : World) (hS : SiW w s fv sv ov kv) :
    Calls Try.prog 3 #[siV s fv sv ov kv, .int .i64 wth, .int .i64 sid] w fun e w' => e = .returned (.bool true) ∧ Below w.heap.size w w' := by
  have OA := Lib.hid (Own.new w (siL s fv sv ov kv).toArray 33)
  have BEL := Lib.hid ((Below.refl w.heap.size w).alloc (Nat.le_refl _) (.cells (siL s fv sv ov kv).toArray 33))
  have HS := Lib.hid hS
  clear hS
  have CU := fun w' => Lib.hid (up11_calls w')
  have CF := fun w' h => Lib.hid (fitsS_calls s fv sv ov kv w' h)
  have hff : fitsI s = 0 ∨ fitsI s = 1 := by
    unfold fitsI smallI knownI
    split
    · exact .inl rfl
    · split <;> split <;> simp
  have hkv : kv.oneCell' = true := by obtain ⟨_, _, e⟩ := HS.out.lk.val; rw [e]; rfl
  by_cases hz : fitsI s = 0
  · rw [hz] at CF
    clear hff hz
    go_enter Try.func3, Try.ntmps3
    go_wp2_with (first | (go_at_call 5; refine (CU _).out.mono ?_; rintro e w1 ⟨rfl, hb⟩; replace OA := Lib.hid (OA.out.later hb); replace BEL := Lib.hid (BEL.out.trans (hb.mono BEL.out.size)); clear hb) | (refine wpList_load_mid (by rfl) 33 _ (by rfl) w.heap.size 0 (by rfl) (siL s fv sv ov kv) _ (by exact OA.out.part 0 _ (by rfl)) Try.underlying33 (by rfl) (by kernel_rfl) ?_) | (go_at_call 6; refine (CF _ (HS.out.later BEL.out)).out.mono ?_; rintro e w2 ⟨rfl, hb⟩; replace OA := Lib.hid (OA.out.later hb); replace BEL := Lib.hid (BEL.out.trans (hb.mono BEL.out.size)); clear hb) | fail)
    go_ret
    exact ⟨rfl, BEL.out⟩
  have h1 : fitsI s = 1 := by rcases hff with h | h; exact absurd h hz; exact h
  have HB := Lib.hid (fits_is h1)
  rw [h1] at CF
  clear hff hz h1
  have CS := fun w' h => Lib.hid (state_calls s fv sv ov kv w' h HB.out.f (Nat.le_trans HB.out.ls (by decide)) (Nat.le_trans HB.out.lo (by decide)))
  have CM := fun fx sx ox w' h => Lib.hid (refMayS_calls s fx sx ox kv w' h HB.out)
  go_enter Try.func3, Try.ntmps3
  go_upto_region 4 with (first | (go_at_call 5; refine (CU _).out.mono ?_; rintro e w1 ⟨rfl, hb⟩; replace OA := Lib.hid (OA.out.later hb); replace BEL := Lib.hid (BEL.out.trans (hb.mono BEL.out.size)); clear hb) | (refine wpList_load_mid (by rfl) 33 _ (by rfl) w.heap.size 0 (by rfl) (siL s fv sv ov kv) _ (by exact OA.out.part 0 _ (by rfl)) Try.underlying33 (by rfl) (by kernel_rfl) ?_) | (go_at_call 6; refine (CF _ (HS.out.later BEL.out)).out.mono ?_; rintro e w2 ⟨rfl, hb⟩; replace OA := Lib.hid (OA.out.later hb); replace BEL := Lib.hid (BEL.out.trans (hb.mono BEL.out.size)); clear hb) | fail)
  go_upto_region 5 with (first
    | (refine wpList_load_mid (by rfl) 33 _ (by rfl) w.heap.size 0 (by rfl) (siL s fv sv ov kv) _ (by exact OA.out.part 0 _ (by rfl)) Try.underlying33 (by rfl) (by kernel_rfl) ?_)
    | (go_at_call 7; refine (CS _ (HS.out.later BEL.out)).out.mono ?_; rintro e w3 ⟨fx, sx, ox, rfl, hst, hb⟩; have g1 : fx.oneCell' = true := lies_one hst.lf; have g2 : sx.oneCell' = true := (by obtain ⟨_, _, _, _, e, _⟩ := hst.ls; rw [e]; rfl); have g3 : ox.oneCell' = true := (by obtain ⟨_, _, _, _, e, _⟩ := hst.lo; rw [e]; rfl); have g4 : kv.oneCell' = true := (by obtain ⟨_, _, e⟩ := hst.lk.val; rw [e]; rfl); unfold Value.oneCell' at g1 g2 g3 g4; replace BEL := Lib.hid (BEL.out.trans (hb.mono BEL.out.size)); have X := Lib.hid hst; have O8 := Lib.hid (Own.new w3 stZ.toArray 42); clear hst hb)
    | (refine wpList_store_mid (by rfl) 42 _ _ (by rfl) w3.heap.size 0 (stA s fx sx ox kv) (by rfl) (by rfl) (by exact O8.out.there (by rfl)) (by kernel_rfl) (by simp [Value.oneCell', g1, g2, g3, g4]) ?_)
    | fail)
  have HK := Lib.hid (And.intro (O8.out.sets (stA s fx sx ox kv).toList (by rfl)) (below_sets (B := w3.heap.size) (b := w3.heap.size) (Nat.le_refl _) (stA s fx sx ox kv).toList 0 ((Below.refl _ _).alloc (Nat.le_refl _) (.cells stZ.toArray 42))))
  revert HK
  generalize World.setCells _ _ _ _ = W4
  intro HK
  replace O8 := Lib.hid HK.out.1
  replace X := Lib.hid (X.out.later HK.out.2)
  replace BEL := Lib.hid (BEL.out.trans (Below.mono HK.out.2 BEL.out.size))
  clear HK OA
  generalize w3.heap.size = b8 at *
  by_cases hm : mayS s = false
  · rw [hm] at CM
    go_wp2_with (first
      | (refine wpList_load_mid (by rfl) 42 _ (by rfl) b8 0 (by rfl) (stA s fx sx ox kv).toList _ (by exact O8.out.part 0 _ (by rfl)) Try.underlying42 (by rfl) (by kernel_rfl) ?_)
      | (go_at_call 8; refine (CM fx sx ox _ X.out).out.mono ?_; rintro e w5 ⟨rfl, hb⟩; replace O8 := Lib.hid (O8.out.later hb); replace X := Lib.hid (X.out.later hb); replace BEL := Lib.hid (BEL.out.trans (hb.mono BEL.out.size)); clear hb)
      | fail)
    go_ret
    exact ⟨rfl, BEL.out⟩
  have hm2 : mayS s = true := by cases h : mayS s; exact absurd h hm; rfl
  rw [hm2] at CM
  have hsame := Lib.hid (may_same (mayS_f hm2))
  clear hm hm2
  have COA := fun q w' h => Lib.hid (askOpen_mg s fx sx ox kv wth q w' h (Nat.le_trans HB.out.f (by decide)) (Nat.le_trans HB.out.ls (by decide)) (Nat.le_trans HB.out.kl (by decide)) (Nat.le_trans HB.out.ki (by decide)))
  have COR := fun w' h => Lib.hid (refAsk_mg s fx sx ox kv wth sid w' h (Nat.le_trans HB.out.ls (by decide)))
  go_upto_region 8 with (first
    | (refine wpList_load_mid (by rfl) 42 _ (by rfl) b8 0 (by rfl) (stA s fx sx ox kv).toList _ (by exact O8.out.part 0 _ (by rfl)) Try.underlying42 (by rfl) (by kernel_rfl) ?_)
    | (go_at_call 8; refine (CM fx sx ox _ X.out).out.mono ?_; rintro e w5 ⟨rfl, hb⟩; replace O8 := Lib.hid (O8.out.later hb); replace X := Lib.hid (X.out.later hb); replace BEL := Lib.hid (BEL.out.trans (hb.mono BEL.out.size)); clear hb)
    | fail)
  go_upto_region 9 with (first
    | (refine wpList_load_mid (by rfl) 42 _ (by rfl) b8 0 (by rfl) (stA s fx sx ox kv).toList _ (by exact O8.out.part 0 _ (by rfl)) Try.underlying42 (by rfl) (by kernel_rfl) ?_)
    | (go_at_call 9; refine (COA sid _ X.out).out.mono ?_; rintro e w11 ⟨fv1, kv1, hv1, rfl, hs, hb⟩; obtain ⟨o13, c13, rfl⟩ := lies_val hs.lf; obtain ⟨o14, c14, rfl⟩ := hs.lk.val; obtain ⟨o15, c15, h5⟩ := rowval hs.lh; subst h5; have MW1 := Lib.hid hs; have OT1 := Lib.hid ((Own.new w11 ssZ 48).alloc (.cells mgZ 51)); replace BEL := Lib.hid (BEL.out.trans (hb.mono BEL.out.size)); replace O8 := Lib.hid (O8.out.later hb); replace X := Lib.hid (X.out.later hb); clear hs hb)
    | (refine wpList_store_mid (by rfl) 48 _ _ (by rfl) w11.heap.size 0 (ssA (askX s wth sid) nilV nilV nilV) (by rfl) (by rfl) (by exact OT1.out.there (by rfl)) (by kernel_rfl) (by simp [Value.oneCell', g1, g2, g3, g4]) ?_)
    | (refine wpList_store_mid (by rfl) 51 _ _ (by rfl) (w11.heap.size + 1) 0 (mgA (askO s wth sid) (.slice o13 s.f.kids.length c13) (.slice o14 s.k.l.length c14) (.slice o15 s.store.length c15) nilV) (by rfl) (by rfl) (by exact (two_there w11 ssZ mgZ 48 51 (ssA (askX s wth sid) nilV nilV nilV).toList).there (by rfl)) (by kernel_rfl) (by simp [Value.oneCell', g1, g2, g3, g4]) ?_)
    | fail)
  have HK := Lib.hid (two_new w11 ssZ mgZ 48 51 (ssA (askX s wth sid) nilV nilV nilV).toList (mgA (askO s wth sid) (.slice o13 s.f.kids.length c13) (.slice o14 s.k.l.length c14) (.slice o15 s.store.length c15) nilV).toList (by rfl) (by rfl))
  clear OT1
  revert HK
  generalize World.setCells (World.setCells _ _ _ _) _ _ _ = W11
  intro HK
  have PA1 := Lib.hid HK.out.1
  have PB1 := Lib.hid HK.out.2.1
  replace MW1 := Lib.hid (MW1.out.later HK.out.2.2)
  replace BEL := Lib.hid (BEL.out.trans (Below.mono HK.out.2.2 BEL.out.size))
  replace O8 := Lib.hid (O8.out.later HK.out.2.2)
  replace X := Lib.hid (X.out.later HK.out.2.2)
  clear HK
  generalize w11.heap.size = bq1 at *
  go_upto_region 10 with (first
    | (refine wpList_load_mid (by rfl) 42 _ (by rfl) b8 0 (by rfl) (stA s fx sx ox kv).toList _ (by exact O8.out.part 0 _ (by rfl)) Try.underlying42 (by rfl) (by kernel_rfl) ?_)
    | (go_at_call 10; refine (COR _ X.out).out.mono ?_; rintro e w12 ⟨fv2, kv2, hv2, rfl, hs, hb⟩; obtain ⟨o23, c23, rfl⟩ := lies_val hs.lf; obtain ⟨o24, c24, rfl⟩ := hs.lk.val; obtain ⟨o25, c25, h5⟩ := rowval hs.lh; subst h5; have MW2 := Lib.hid hs; have OT2 := Lib.hid ((Own.new w12 ssZ 54).alloc (.cells mgZ 51)); replace BEL := Lib.hid (BEL.out.trans (hb.mono BEL.out.size)); replace O8 := Lib.hid (O8.out.later hb); replace X := Lib.hid (X.out.later hb); replace PA1 := Lib.hid (PA1.out.later hb); replace PB1 := Lib.hid (PB1.out.later hb); replace MW1 := Lib.hid (MW1.out.later hb); clear hs hb)
    | (refine wpList_store_mid (by rfl) 54 _ _ (by rfl) w12.heap.size 0 (ssA (askX s wth sid) nilV nilV nilV) (by rfl) (by rfl) (by exact OT2.out.there (by rfl)) (by kernel_rfl) (by simp [Value.oneCell', g1, g2, g3, g4]) ?_)
    | (refine wpList_store_mid (by rfl) 51 _ _ (by rfl) (w12.heap.size + 1) 0 (mgA (askO s wth sid) (.slice o23 s.f.kids.length c23) (.slice o24 s.k.l.length c24) (.slice o25 s.store.length c25) nilV) (by rfl) (by rfl) (by exact (two_there w12 ssZ mgZ 54 51 (ssA (askX s wth sid) nilV nilV nilV).toList).there (by rfl)) (by kernel_rfl) (by simp [Value.oneCell', g1, g2, g3, g4]) ?_)
    | fail)
  have HK := Lib.hid (two_new w12 ssZ mgZ 54 51 (ssA (askX s wth sid) nilV nilV nilV).toList (mgA (askO s wth sid) (.slice o23 s.f.kids.length c23) (.slice o24 s.k.l.length c24) (.slice o25 s.store.length c25) nilV).toList (by rfl) (by rfl))
  clear OT2
  revert HK
  generalize World.setCells (World.setCells _ _ _ _) _ _ _ = W12
  intro HK
  have PA2 := Lib.hid HK.out.1
  have PB2 := Lib.hid HK.out.2.1
  replace MW2 := Lib.hid (MW2.out.later HK.out.2.2)
  replace BEL := Lib.hid (BEL.out.trans (Below.mono HK.out.2.2 BEL.out.size))
  replace O8 := Lib.hid (O8.out.later HK.out.2.2)
  replace X := Lib.hid (X.out.later HK.out.2.2)
  replace PA1 := Lib.hid (PA1.out.later HK.out.2.2)
  replace PB1 := Lib.hid (PB1.out.later HK.out.2.2)
  replace MW1 := Lib.hid (MW1.out.later HK.out.2.2)
  clear HK
  generalize w12.heap.size = bq2 at *
  have CL := fun w' => Lib.hid (lawSess_calls (askX s wth sid) nilV nilV nilV w' (askX_lies w' s wth sid))
  have CX := fun w' => Lib.hid (refSess_same (askX s wth sid) nilV nilV nilV nilV nilV nilV w' (askX_lies w' s wth sid) (askX_lies w' s wth sid) (fun e he => by cases he) (Nat.zero_le _) (Nat.zero_le _))
  have CG := fun a b c d e f w' h h' => Lib.hid (refMsg_same (askO s wth sid) a b c nilV d e f nilV w' h h' hsame.out (fun e he => by cases he) (Nat.zero_le _) (Nat.le_trans HB.out.ls (by decide)))
  clear CS CM COA COR CF CU HS hsame O8 X
  try simp only [Act.put]
  refine monoN_start (T := fun _ => False) (D := fun _ => false) (by kernel_rfl) (fun wd hbd => ?_)
  replace PA1 := Lib.hid (PA1.out.later hbd)
  replace PA2 := Lib.hid (PA2.out.later hbd)
  replace PB1 := Lib.hid (PB1.out.later hbd)
  replace PB2 := Lib.hid (PB2.out.later hbd)
  replace BEL := Lib.hid (BEL.out.trans (Below.mono hbd BEL.out.size))
  have hbd2 := hbd
  clear hbd
  replace MW1 := Lib.hid (MW1.out.later hbd2)
  replace MW2 := Lib.hid (MW2.out.later hbd2)
  clear hbd2
  refine monoN_stay (i := 0) (v := .agg (ssA (askX s wth sid) nilV nilV nilV)) rfl (by kernel_rfl) (by kernel_rfl) (by kernel_rfl) (fun _ _ _ h => h) (Or.inl ⟨by rfl, fun wL hL => exec_load_mid 48 _ rfl (bq1) 0 (by rfl) ((ssA (askX s wth sid) nilV nilV nilV) : Array Value).toList _ ((PA1.out.but hL (fun h => h)).part 0 _ (by rfl)) Try.underlying48 (by rfl) (by kernel_rfl)⟩) ?_
  try simp only [Act.put, List.getElem_toArray, List.getElem_cons_zero, List.getElem_cons_succ, List.setIfInBounds_toArray, List.set_cons_zero, List.set_cons_succ]
  refine monoN_stay (i := 2) (v := .agg (ssA (askX s wth sid) nilV nilV nilV)) rfl (by kernel_rfl) (by kernel_rfl) (by kernel_rfl) (fun _ _ _ h => h) (Or.inl ⟨by rfl, fun wL hL => exec_load_mid 54 _ rfl (bq2) 0 (by rfl) ((ssA (askX s wth sid) nilV nilV nilV) : Array Value).toList _ ((PA2.out.but hL (fun h => h)).part 0 _ (by rfl)) Try.underlying54 (by rfl) (by kernel_rfl)⟩) ?_
  try simp only [Act.put, List.getElem_toArray, List.getElem_cons_zero, List.getElem_cons_succ, List.setIfInBounds_toArray, List.set_cons_zero, List.set_cons_succ]
  refine monoN_r1 (i := 1) (by kernel_rfl) ?_
  have z1PA1 := PA1.out.lt
  have z1PA2 := PA2.out.lt
  have z1PB1 := PB1.out.lt
  have z1PB2 := PB2.out.lt
  refine stepN_call (by rfl) (by rfl) (fun K hK => ?_)
  try simp only [List.getElem_toArray, List.getElem_cons_zero, List.getElem_cons_succ]
  (go_simp; go_at_call 12; refine (CL _).out.mono ?_; rintro e wc ⟨rfl, hb⟩)
  try go_wp2_with fail
  refine hK.out _ _ (fun _ => hb) (But.of hb) ?_
  clear hK K
  replace PA1 := Lib.hid (PA1.out.later hb)
  replace PA2 := Lib.hid (PA2.out.later hb)
  replace PB1 := Lib.hid (PB1.out.later hb)
  replace PB2 := Lib.hid (PB2.out.later hb)
  replace BEL := Lib.hid (BEL.out.trans (Below.mono hb BEL.out.size))
  replace MW1 := Lib.hid (MW1.out.later hb)
  replace MW2 := Lib.hid (MW2.out.later hb)
  clear hb
  try simp only [Act.put, List.getElem_toArray, List.getElem_cons_zero, List.getElem_cons_succ, List.setIfInBounds_toArray, List.set_cons_zero, List.set_cons_succ]
  refine monoN_r1 (i := 3) (by kernel_rfl) ?_
  have z3PA1 := PA1.out.lt
  have z3PA2 := PA2.out.lt
  have z3PB1 := PB1.out.lt
  have z3PB2 := PB2.out.lt
  refine stepN_call (by rfl) (by rfl) (fun K hK => ?_)
  try simp only [List.getElem_toArray, List.getElem_cons_zero, List.getElem_cons_succ]
  (go_simp; go_at_call 11; refine (CX _).out.mono ?_; rintro e wc ⟨rfl, hb⟩)
  try go_wp2_with fail
  refine hK.out _ _ (fun _ => hb) (But.of hb) ?_
  clear hK K
  replace PA1 := Lib.hid (PA1.out.later hb)
  replace PA2 := Lib.hid (PA2.out.later hb)
  replace PB1 := Lib.hid (PB1.out.later hb)
  replace PB2 := Lib.hid (PB2.out.later hb)
  replace BEL := Lib.hid (BEL.out.trans (Below.mono hb BEL.out.size))
  replace MW1 := Lib.hid (MW1.out.later hb)
  replace MW2 := Lib.hid (MW2.out.later hb)
  clear hb
  try simp only [Act.put, List.getElem_toArray, List.getElem_cons_zero, List.getElem_cons_succ, List.setIfInBounds_toArray, List.set_cons_zero, List.set_cons_succ]
  refine monoN_stay (i := 4) (v := ?_) rfl (by kernel_rfl) (by kernel_rfl) (by kernel_rfl) (fun _ _ _ h => h) (Or.inl ⟨by rfl, ?_⟩) ?_
  rotate_left 1
  · (intro wL hL; go_simp; try with_reducible rfl)
  try simp only [Act.put, List.getElem_toArray, List.getElem_cons_zero, List.getElem_cons_succ, List.setIfInBounds_toArray, List.set_cons_zero, List.set_cons_succ]
  refine monoN_done (by kernel_rfl) ?_ _
  go_wp2_with (first
    | (refine wpList_load_mid (by rfl) 51 _ (by rfl) (bq1 + 1) 0 (by rfl) (mgA (askO s wth sid) (.slice o13 s.f.kids.length c13) (.slice o14 s.k.l.length c14) (.slice o15 s.store.length c15) nilV).toList _ (by exact PB1.out.part 0 _ (by rfl)) Try.underlying51 (by rfl) (by kernel_rfl) ?_)
    | (refine wpList_load_mid (by rfl) 51 _ (by rfl) (bq2 + 1) 0 (by rfl) (mgA (askO s wth sid) (.slice o23 s.f.kids.length c23) (.slice o24 s.k.l.length c24) (.slice o25 s.store.length c25) nilV).toList _ (by exact PB2.out.part 0 _ (by rfl)) Try.underlying51 (by rfl) (by kernel_rfl) ?_)
    | (go_at_call 13; refine (CG _ _ _ _ _ _ _ MW1.out MW2.out).out.mono ?_; rintro e wz ⟨rfl, hb⟩; replace BEL := Lib.hid (BEL.out.trans (hb.mono BEL.out.size)); clear hb)
    | fail)
  go_ret
  exact ⟨rfl, BEL.out⟩
end Go.Proofs.Ytjepnaefkfkpcaa
