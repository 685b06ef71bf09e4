/- Joined: RecvTells. -/
import Derived.Test.YtjkcooakddlppaaGreatJ44
import Derived.Test.YtjkcooakddlppaaGreatJ43
import Derived.Test.YtjkcooakddlppaaGreatJ26
import Derived.Test.YtjkcooakddlppaaGreatJ31
import Derived.Test.YtjkcooakddlppaaGreatJ29
import Derived.Test.YtjkcooakddlppaaGreatJ01
/- RecvTells: the law's walk. -/
namespace Go.Proofs.YtjkcooakddlppaaGreat
set_option linter.unusedVariables false
set_option linter.unusedSimpArgs false
set_option maxRecDepth 100000
open Go Go.RowKit
theorem refItemW (s : St) (fv sv ov kv : Value) (x : Itm) (w : World) (hS : StW w s fv sv ov kv) (hB : StB s) (hx : x.id.size ≤ maxLen ∧ x.kd.size ≤ maxLen) :
    Calls Tryz.prog 12 #[stV s fv sv ov kv, iV x] w fun e w' => ∃ f5 s5 o5 k5, e = .returned (.tuple #[stV (recvS s x) f5 s5 o5 k5, .int .i64 (recvE s x)]) ∧ StW w' (recvS s x) f5 s5 o5 k5 ∧ Below w.heap.size w w' :=
  (refItem_calls s fv sv ov kv x w hS hB hx).mono fun _ _ ⟨f5, s5, o5, k5, he, hx, hb⟩ => ⟨f5, s5, o5, k5, he, hx.lies hS.lf hS.ls hS.lo hS.lk hb, hb⟩
set_option maxRecDepth 100000 in
set_option maxHeartbeats 8000000 in
theorem recvTells_calls (s : St) (fv sv ov kv : Value) (z : Itm) (id : ByteArray) (r c r2 q2 : Int) (w : World) (hS : SiW w s fv sv ov kv) (hz : z.id.size ≤ maxLen ∧ z.kd.size ≤ maxLen) (hid : id.size ≤ maxLen) :
    Calls Tryz.prog 3 #[siV s fv sv ov kv, rV z, .string id, vV r c, vV r2 q2] w fun e w' => e = .returned (.bool true) ∧ Below w.heap.size w w' := by
  have OA := Lib.hid ((((Own.new w (siL s fv sv ov kv).toArray 33).alloc (.cells (rA z) 35)).alloc (.cells (vA r c) 37)).alloc (.cells (vA r2 q2) 37))
  have OR := Lib.hid (((Own.newAt (w.alloc (.cells (siL s fv sv ov kv).toArray 33)) (rA z) 35 (b := w.heap.size + 1) (by simp)).alloc (.cells (vA r c) 37)).alloc (.cells (vA r2 q2) 37))
  have O8 := Lib.hid ((Own.newAt ((w.alloc (.cells (siL s fv sv ov kv).toArray 33)).alloc (.cells (rA z) 35)) (vA r c) 37 (b := w.heap.size + 2) (by simp)).alloc (.cells (vA r2 q2) 37))
  have O9 := Lib.hid (Own.newAt (((w.alloc (.cells (siL s fv sv ov kv).toArray 33)).alloc (.cells (rA z) 35)).alloc (.cells (vA r c) 37)) (vA r2 q2) 37 (b := w.heap.size + 3) (by simp))
  have BEL := Lib.hid (((((Below.refl w.heap.size w).alloc (Nat.le_refl _) (.cells (siL s fv sv ov kv).toArray 33)).alloc (by simp) (.cells (rA z) 35)).alloc (by simp; omega) (.cells (vA r c) 37)).alloc (by simp; omega) (.cells (vA r2 q2) 37))
  have HS := Lib.hid hS
  clear hS
  have CU := fun w' => Lib.hid (up10_calls w')
  have CF := fun w' h => Lib.hid (fitsS_calls s fv sv ov kv w' h)
  have hff : fitsI s = 0 ∨ fitsI s = 1 := by
    unfold fitsI smallI knownI
    split
    · exact .inl rfl
    · split <;> split <;> simp
  have HB := Lib.hid (fun h => fits_is (s := s) h)
  generalize fitsI s = ft at *
  go_enter Tryz.func3, Tryz.ntmps3
  go_upto_region 1 with fail
  revert OA OR O8 O9 BEL
  generalize World.alloc (World.alloc (World.alloc (World.alloc _ _) _) _) _ = W0
  intro OA OR O8 O9 BEL
  try simp only [Act.put]
  rcases hff with rfl | rfl
  · go_wp2_with (first
    | (go_at_call 6; refine (CU _).out.mono ?_; rintro e wy ⟨rfl, hb⟩; replace OA := Lib.hid (OA.out.later hb); replace OR := Lib.hid (OR.out.later hb); replace O8 := Lib.hid (O8.out.later hb); replace O9 := Lib.hid (O9.out.later hb); replace BEL := Lib.hid (BEL.out.trans (Below.mono hb BEL.out.size)); clear hb)
    | (refine wpList_load_mid (by rfl) 33 _ (by rfl) w.heap.size 0 (by rfl) (siL s fv sv ov kv) _ (by exact OA.out.part 0 _ (by rfl)) Tryz.underlying33 (by rfl) (by kernel_rfl) ?_)
    | (go_at_call 7; refine (CF _ (HS.out.later BEL.out)).out.mono ?_; rintro e wy ⟨rfl, hb⟩; replace OA := Lib.hid (OA.out.later hb); replace OR := Lib.hid (OR.out.later hb); replace O8 := Lib.hid (O8.out.later hb); replace O9 := Lib.hid (O9.out.later hb); replace BEL := Lib.hid (BEL.out.trans (Below.mono hb BEL.out.size)); clear hb)
    | fail)
    go_ret
    exact ⟨rfl, BEL.out⟩
  replace HB := Lib.hid (HB.out (by first | trivial | rfl))
  have CS := fun w' h => Lib.hid (state_calls s fv sv ov kv w' h HB.out.f (Nat.le_trans HB.out.ls (by decide)) (Nat.le_trans HB.out.lo (by decide)))
  have CM := fun fx sx ox kx w' h => Lib.hid (refMayS_calls s fx sx ox kx w' h HB.out)
  go_upto_region 4 with (first
    | (go_at_call 6; refine (CU _).out.mono ?_; rintro e wy ⟨rfl, hb⟩; replace OA := Lib.hid (OA.out.later hb); replace OR := Lib.hid (OR.out.later hb); replace O8 := Lib.hid (O8.out.later hb); replace O9 := Lib.hid (O9.out.later hb); replace BEL := Lib.hid (BEL.out.trans (Below.mono hb BEL.out.size)); clear hb)
    | (refine wpList_load_mid (by rfl) 33 _ (by rfl) w.heap.size 0 (by rfl) (siL s fv sv ov kv) _ (by exact OA.out.part 0 _ (by rfl)) Tryz.underlying33 (by rfl) (by kernel_rfl) ?_)
    | (go_at_call 7; refine (CF _ (HS.out.later BEL.out)).out.mono ?_; rintro e wy ⟨rfl, hb⟩; replace OA := Lib.hid (OA.out.later hb); replace OR := Lib.hid (OR.out.later hb); replace O8 := Lib.hid (O8.out.later hb); replace O9 := Lib.hid (O9.out.later hb); replace BEL := Lib.hid (BEL.out.trans (Below.mono hb BEL.out.size)); clear hb)
    | fail)
  clear CU CF
  go_upto_region 5 with (first
    | (refine wpList_load_mid (by rfl) 33 _ (by rfl) w.heap.size 0 (by rfl) (siL s fv sv ov kv) _ (by exact OA.out.part 0 _ (by rfl)) Tryz.underlying33 (by rfl) (by kernel_rfl) ?_)
    | (go_at_call 8; refine (CS _ (HS.out.later BEL.out)).out.mono ?_; rintro e w1 ⟨fx, sx, ox, rfl, hst, hb⟩; obtain ⟨⟨oa1, ca1, rfl⟩, ⟨ob1, cb1, rfl⟩, ⟨oc1, cc1, rfl⟩, ⟨od1, cd1, rfl⟩⟩ := hst.shape; replace OA := Lib.hid (OA.out.later hb); replace OR := Lib.hid (OR.out.later hb); replace O8 := Lib.hid (O8.out.later hb); replace O9 := Lib.hid (O9.out.later hb); replace BEL := Lib.hid (BEL.out.trans (Below.mono hb BEL.out.size)); have X1 := Lib.hid (hst); have O1 := Lib.hid (Own.new w1 stZ.toArray 46); clear hst hb)
    | (refine wpList_store_mid (by rfl) 46 _ _ (by rfl) w1.heap.size 0 (stA s (.slice oa1 s.f.kids.length ca1) (.slice ob1 s.store.length cb1) (.slice oc1 s.out.length cc1) (.slice od1 s.k.l.length cd1)) (by rfl) (by rfl) (O1.out.there (by rfl)) (by kernel_rfl) (by simp [Value.oneCell']) ?_; have HK := Lib.hid (And.intro (O1.out.sets (stA s (.slice oa1 s.f.kids.length ca1) (.slice ob1 s.store.length cb1) (.slice oc1 s.out.length cc1) (.slice od1 s.k.l.length cd1)).toList (by rfl)) (below_sets (B := w1.heap.size) (b := w1.heap.size) (Nat.le_refl _) (stA s (.slice oa1 s.f.kids.length ca1) (.slice ob1 s.store.length cb1) (.slice oc1 s.out.length cc1) (.slice od1 s.k.l.length cd1)).toList 0 ((Below.refl _ _).alloc (Nat.le_refl _) (.cells stZ.toArray 46)))); revert HK; generalize World.setCells _ _ _ _ = W1; intro HK; have hb := HK.out.2; replace O1 := Lib.hid HK.out.1; replace OA := Lib.hid (OA.out.later hb); replace OR := Lib.hid (OR.out.later hb); replace O8 := Lib.hid (O8.out.later hb); replace O9 := Lib.hid (O9.out.later hb); replace BEL := Lib.hid (BEL.out.trans (Below.mono hb BEL.out.size)); replace X1 := Lib.hid (X1.out.later hb); clear HK hb)
    | fail)
  clear CS
  have CIT := fun w' => Lib.hid (item_calls z.id z.r z.c z.st z.kd z.num z.x z.y z.d w')
  go_upto_region 6 with (first
    | (refine wpList_load_mid (by rfl) 35 _ (by rfl) (w.heap.size + 1) 0 (by rfl) (rc z) _ (by exact OR.out.part 0 _ (by rfl)) Tryz.underlying35 (by rfl) (by kernel_rfl) ?_)
    | (go_at_call 9; refine (CIT _).out.mono ?_; rintro e w3 ⟨rfl, hb⟩; replace OA := Lib.hid (OA.out.later hb); replace OR := Lib.hid (OR.out.later hb); replace O8 := Lib.hid (O8.out.later hb); replace O9 := Lib.hid (O9.out.later hb); replace O1 := Lib.hid (O1.out.later hb); replace X1 := Lib.hid (X1.out.later hb); replace BEL := Lib.hid (BEL.out.trans (Below.mono hb BEL.out.size)); clear hb)
    | fail)
  have O13 := Lib.hid (Own.new w3 (iA z) 49)
  have hb9 : Below w3.heap.size w3 (w3.alloc (.cells (iA z) 49)) := (Below.refl _ _).alloc (Nat.le_refl _) _
  replace O1 := Lib.hid (O1.out.later hb9)
  replace OR := Lib.hid (OR.out.later hb9)
  replace OA := Lib.hid (OA.out.later hb9)
  replace O8 := Lib.hid (O8.out.later hb9)
  replace O9 := Lib.hid (O9.out.later hb9)
  replace X1 := Lib.hid (X1.out.later hb9)
  replace BEL := Lib.hid (BEL.out.trans (hb9.mono BEL.out.size))
  clear hb9 CIT
  revert OA
  revert OR
  revert O8
  revert O9
  revert BEL
  revert O1
  revert X1
  revert O13
  generalize World.alloc _ _ = W3
  generalize w3.heap.size = b13 at *
  intro O13 X1 O1 BEL O9 O8 OR OA
  try simp only [Act.put]
  have hmm : mayS s = false ∨ mayS s = true := by cases mayS s <;> simp
  have HGD := Lib.hid (fun h => (mayS_iff (s := s)).1 h)
  generalize mayS s = ms at *
  rcases hmm with rfl | rfl
  · go_wp2_with (first
      | (refine wpList_load_mid (by rfl) 46 _ (by rfl) w1.heap.size 0 (by rfl) (stA s (.slice oa1 s.f.kids.length ca1) (.slice ob1 s.store.length cb1) (.slice oc1 s.out.length cc1) (.slice od1 s.k.l.length cd1)).toList _ (by exact O1.out.part 0 _ (by rfl)) Tryz.underlying46 (by rfl) (by kernel_rfl) ?_)
      | (go_at_call 10; refine (CM _ _ _ _ _ X1.out).out.mono ?_; rintro e wy ⟨rfl, hb⟩; replace OA := Lib.hid (OA.out.later hb); replace OR := Lib.hid (OR.out.later hb); replace O8 := Lib.hid (O8.out.later hb); replace O9 := Lib.hid (O9.out.later hb); replace O1 := Lib.hid (O1.out.later hb); replace O13 := Lib.hid (O13.out.later hb); replace X1 := Lib.hid (X1.out.later hb); replace BEL := Lib.hid (BEL.out.trans (Below.mono hb BEL.out.size)); clear hb)
      | fail)
    go_ret
    exact ⟨rfl, BEL.out⟩
  have hG := HGD.out (by first | trivial | rfl)
  clear HGD
  have hUG := recv_good (x := z) hG
  have hUF : Pr.same (recvS s z).f (recvS s z).f = true := may_same hUG.f
  have hGo := goes_good (id := id) (r := r) (c := c) (r2 := r2) (q2 := q2) hG
  have CRI := fun a b c d w' h => Lib.hid ((recvItem_calls s a b c d z w' h hG HB.out hz).mono fun _ _ H => H)
  have CRF := fun a b c d w' h => Lib.hid (refItemW s a b c d z w' h HB.out hz)
  have CSA := fun af asv ao ak bf bs bo bk w' hA hB => Lib.hid (same_st hUG hUF ▸ refSameS_calls (recvS s z) (recvS s z) af asv ao ak bf bs bo bk w' hA hB)
  have CCO := fun w' => Lib.hid (errI_code (recv_le (s := s) (x := z)) w')
  have hne : (recvE s z != recvE s z) = false := bne_self_eq_false _
  have CG1 := fun a b d e w' h => Lib.hid (recvGoes_calls s a b d e id r c r2 q2 w' h hG HB.out hid)
  have CG2 := fun a b d e w' h => Lib.hid (refGoes_calls s a b d e id r c r2 q2 w' h HB.out hid)
  have CG3 := fun af asv ao ak bf bs bo bk w' hA hB => Lib.hid (same_st hGo (may_same hGo.f) ▸ refSameS_calls (goesS s id r c r2 q2) (goesS s id r c r2 q2) af asv ao ak bf bs bo bk w' hA hB)
  generalize goesS s id r c r2 q2 = G at *
  generalize recvS s z = U at *
  generalize recvE s z = E at *
  clear hG hUG hUF hGo
  go_upto_region 9 with (first
    | (refine wpList_load_mid (by rfl) 46 _ (by rfl) w1.heap.size 0 (by rfl) (stA s (.slice oa1 s.f.kids.length ca1) (.slice ob1 s.store.length cb1) (.slice oc1 s.out.length cc1) (.slice od1 s.k.l.length cd1)).toList _ (by exact O1.out.part 0 _ (by rfl)) Tryz.underlying46 (by rfl) (by kernel_rfl) ?_)
    | (go_at_call 10; refine (CM _ _ _ _ _ X1.out).out.mono ?_; rintro e wy ⟨rfl, hb⟩; replace OA := Lib.hid (OA.out.later hb); replace OR := Lib.hid (OR.out.later hb); replace O8 := Lib.hid (O8.out.later hb); replace O9 := Lib.hid (O9.out.later hb); replace O1 := Lib.hid (O1.out.later hb); replace O13 := Lib.hid (O13.out.later hb); replace X1 := Lib.hid (X1.out.later hb); replace BEL := Lib.hid (BEL.out.trans (Below.mono hb BEL.out.size)); clear hb)
    | fail)
  clear CM
  go_upto_region 10 with (first
    | (refine wpList_load_mid (by rfl) 46 _ (by rfl) w1.heap.size 0 (by rfl) (stA s (.slice oa1 s.f.kids.length ca1) (.slice ob1 s.store.length cb1) (.slice oc1 s.out.length cc1) (.slice od1 s.k.l.length cd1)).toList _ (by exact O1.out.part 0 _ (by rfl)) Tryz.underlying46 (by rfl) (by kernel_rfl) ?_)
    | (refine wpList_load_mid (by rfl) 49 _ (by rfl) b13 0 (by rfl) (ic z) _ (by exact O13.out.part 0 _ (by rfl)) Tryz.underlying49 (by rfl) (by kernel_rfl) ?_)
    | (go_at_call 11; refine (CRI _ _ _ _ _ X1.out).out.mono ?_; rintro e w2 ⟨f6, s6, o6, k6, rfl, hst, hb⟩; obtain ⟨⟨oa2, ca2, rfl⟩, ⟨ob2, cb2, rfl⟩, ⟨oc2, cc2, rfl⟩, ⟨od2, cd2, rfl⟩⟩ := hst.now.shape; replace OA := Lib.hid (OA.out.later hb); replace OR := Lib.hid (OR.out.later hb); replace O8 := Lib.hid (O8.out.later hb); replace O9 := Lib.hid (O9.out.later hb); replace O1 := Lib.hid (O1.out.later hb); replace O13 := Lib.hid (O13.out.later hb); replace X1 := Lib.hid (X1.out.later hb); replace BEL := Lib.hid (BEL.out.trans (Below.mono hb BEL.out.size)); have X2 := Lib.hid (hst.now); have O2 := Lib.hid (Own.new w2 stZ.toArray 46); clear hst hb)
    | (refine wpList_store_mid (by rfl) 46 _ _ (by rfl) w2.heap.size 0 (stA U (.slice oa2 U.f.kids.length ca2) (.slice ob2 U.store.length cb2) (.slice oc2 U.out.length cc2) (.slice od2 U.k.l.length cd2)) (by rfl) (by rfl) (O2.out.there (by rfl)) (by kernel_rfl) (by simp [Value.oneCell']) ?_; have HK := Lib.hid (And.intro (O2.out.sets (stA U (.slice oa2 U.f.kids.length ca2) (.slice ob2 U.store.length cb2) (.slice oc2 U.out.length cc2) (.slice od2 U.k.l.length cd2)).toList (by rfl)) (below_sets (B := w2.heap.size) (b := w2.heap.size) (Nat.le_refl _) (stA U (.slice oa2 U.f.kids.length ca2) (.slice ob2 U.store.length cb2) (.slice oc2 U.out.length cc2) (.slice od2 U.k.l.length cd2)).toList 0 ((Below.refl _ _).alloc (Nat.le_refl _) (.cells stZ.toArray 46)))); revert HK; generalize World.setCells _ _ _ _ = W2; intro HK; have hb := HK.out.2; replace O2 := Lib.hid HK.out.1; replace OA := Lib.hid (OA.out.later hb); replace OR := Lib.hid (OR.out.later hb); replace O8 := Lib.hid (O8.out.later hb); replace O9 := Lib.hid (O9.out.later hb); replace O1 := Lib.hid (O1.out.later hb); replace O13 := Lib.hid (O13.out.later hb); replace X1 := Lib.hid (X1.out.later hb); replace BEL := Lib.hid (BEL.out.trans (Below.mono hb BEL.out.size)); replace X2 := Lib.hid (X2.out.later hb); clear HK hb)
    | fail)
  go_upto_region 11 with (first
    | (refine wpList_load_mid (by rfl) 46 _ (by rfl) w1.heap.size 0 (by rfl) (stA s (.slice oa1 s.f.kids.length ca1) (.slice ob1 s.store.length cb1) (.slice oc1 s.out.length cc1) (.slice od1 s.k.l.length cd1)).toList _ (by exact O1.out.part 0 _ (by rfl)) Tryz.underlying46 (by rfl) (by kernel_rfl) ?_)
    | (refine wpList_load_mid (by rfl) 49 _ (by rfl) b13 0 (by rfl) (ic z) _ (by exact O13.out.part 0 _ (by rfl)) Tryz.underlying49 (by rfl) (by kernel_rfl) ?_)
    | (go_at_call 12; refine (CRF _ _ _ _ _ X1.out).out.mono ?_; rintro e w3 ⟨f7, s7, o7, k7, rfl, hst, hb⟩; obtain ⟨⟨oa3, ca3, rfl⟩, ⟨ob3, cb3, rfl⟩, ⟨oc3, cc3, rfl⟩, ⟨od3, cd3, rfl⟩⟩ := hst.shape; replace OA := Lib.hid (OA.out.later hb); replace OR := Lib.hid (OR.out.later hb); replace O8 := Lib.hid (O8.out.later hb); replace O9 := Lib.hid (O9.out.later hb); replace O1 := Lib.hid (O1.out.later hb); replace O13 := Lib.hid (O13.out.later hb); replace O2 := Lib.hid (O2.out.later hb); replace X1 := Lib.hid (X1.out.later hb); replace X2 := Lib.hid (X2.out.later hb); replace BEL := Lib.hid (BEL.out.trans (Below.mono hb BEL.out.size)); have X3 := Lib.hid (hst); have O3 := Lib.hid (Own.new w3 stZ.toArray 46); clear hst hb)
    | (refine wpList_store_mid (by rfl) 46 _ _ (by rfl) w3.heap.size 0 (stA U (.slice oa3 U.f.kids.length ca3) (.slice ob3 U.store.length cb3) (.slice oc3 U.out.length cc3) (.slice od3 U.k.l.length cd3)) (by rfl) (by rfl) (O3.out.there (by rfl)) (by kernel_rfl) (by simp [Value.oneCell']) ?_; have HK := Lib.hid (And.intro (O3.out.sets (stA U (.slice oa3 U.f.kids.length ca3) (.slice ob3 U.store.length cb3) (.slice oc3 U.out.length cc3) (.slice od3 U.k.l.length cd3)).toList (by rfl)) (below_sets (B := w3.heap.size) (b := w3.heap.size) (Nat.le_refl _) (stA U (.slice oa3 U.f.kids.length ca3) (.slice ob3 U.store.length cb3) (.slice oc3 U.out.length cc3) (.slice od3 U.k.l.length cd3)).toList 0 ((Below.refl _ _).alloc (Nat.le_refl _) (.cells stZ.toArray 46)))); revert HK; generalize World.setCells _ _ _ _ = W3; intro HK; have hb := HK.out.2; replace O3 := Lib.hid HK.out.1; replace OA := Lib.hid (OA.out.later hb); replace OR := Lib.hid (OR.out.later hb); replace O8 := Lib.hid (O8.out.later hb); replace O9 := Lib.hid (O9.out.later hb); replace O1 := Lib.hid (O1.out.later hb); replace O13 := Lib.hid (O13.out.later hb); replace O2 := Lib.hid (O2.out.later hb); replace X1 := Lib.hid (X1.out.later hb); replace X2 := Lib.hid (X2.out.later hb); replace BEL := Lib.hid (BEL.out.trans (Below.mono hb BEL.out.size)); replace X3 := Lib.hid (X3.out.later hb); clear HK hb)
    | fail)
  clear CRI CRF
  generalize hE : errI E = ev at *
  have HE := Lib.hid hE
  clear hE
  go_upto_region 14 with (first
    | (refine wpList_load_mid (by rfl) 46 _ (by rfl) w2.heap.size 0 (by rfl) (stA U (.slice oa2 U.f.kids.length ca2) (.slice ob2 U.store.length cb2) (.slice oc2 U.out.length cc2) (.slice od2 U.k.l.length cd2)).toList _ (by exact O2.out.part 0 _ (by rfl)) Tryz.underlying46 (by rfl) (by kernel_rfl) ?_)
    | (refine wpList_load_mid (by rfl) 46 _ (by rfl) w3.heap.size 0 (by rfl) (stA U (.slice oa3 U.f.kids.length ca3) (.slice ob3 U.store.length cb3) (.slice oc3 U.out.length cc3) (.slice od3 U.k.l.length cd3)).toList _ (by exact O3.out.part 0 _ (by rfl)) Tryz.underlying46 (by rfl) (by kernel_rfl) ?_)
    | (go_at_call 13; refine (CSA _ _ _ _ _ _ _ _ _ X2.out X3.out).out.mono ?_; rintro e wy ⟨rfl, hb⟩; replace OA := Lib.hid (OA.out.later hb); replace OR := Lib.hid (OR.out.later hb); replace O8 := Lib.hid (O8.out.later hb); replace O9 := Lib.hid (O9.out.later hb); replace O1 := Lib.hid (O1.out.later hb); replace O13 := Lib.hid (O13.out.later hb); replace O2 := Lib.hid (O2.out.later hb); replace O3 := Lib.hid (O3.out.later hb); replace X1 := Lib.hid (X1.out.later hb); replace X2 := Lib.hid (X2.out.later hb); replace X3 := Lib.hid (X3.out.later hb); replace BEL := Lib.hid (BEL.out.trans (Below.mono hb BEL.out.size)); clear hb)
    | (go_at_call 14; refine (CCO _).out.mono ?_; rintro e wy ⟨rfl, rfl⟩)
    | fail)
  clear CSA CCO X2 X3 O2 O3
  try simp only [Act.put]
  refine monoN_start (T := fun _ => False) (D := fun _ => false) (by kernel_rfl) (fun wd hbd => ?_)
  replace O1 := Lib.hid (O1.out.later hbd)
  replace O8 := Lib.hid (O8.out.later hbd)
  replace O9 := Lib.hid (O9.out.later hbd)
  replace BEL := Lib.hid (BEL.out.trans (Below.mono hbd BEL.out.size))
  replace X1 := Lib.hid (X1.out.later hbd)
  clear hbd
  refine monoN_stay (i := 0) (v := .agg (stA s (.slice oa1 s.f.kids.length ca1) (.slice ob1 s.store.length cb1) (.slice oc1 s.out.length cc1) (.slice od1 s.k.l.length cd1))) rfl (by kernel_rfl) (by kernel_rfl) (by kernel_rfl) (fun _ _ _ h => h) (Or.inl ⟨by rfl, fun wL hL => exec_load_mid 46 _ rfl (w1.heap.size) 0 (by rfl) ((stA s (.slice oa1 s.f.kids.length ca1) (.slice ob1 s.store.length cb1) (.slice oc1 s.out.length cc1) (.slice od1 s.k.l.length cd1)) : Array Value).toList _ ((O1.out.but hL (fun h => h)).part 0 _ (by rfl)) Tryz.underlying46 (by rfl) (by kernel_rfl)⟩) ?_
  try simp only [Act.put, List.getElem_toArray, List.getElem_cons_zero, List.getElem_cons_succ, List.setIfInBounds_toArray, List.set_cons_zero, List.set_cons_succ]
  refine monoN_stay (i := 1) (v := ?_) rfl (by kernel_rfl) (by kernel_rfl) (by kernel_rfl) (fun _ _ _ h => h) (Or.inl ⟨by rfl, ?_⟩) ?_
  rotate_left 1
  · (intro wL hL; go_simp; try with_reducible rfl)
  try simp only [Act.put, List.getElem_toArray, List.getElem_cons_zero, List.getElem_cons_succ, List.setIfInBounds_toArray, List.set_cons_zero, List.set_cons_succ]
  refine monoN_stay (i := 2) (v := ?_) rfl (by kernel_rfl) (by kernel_rfl) (by kernel_rfl) (fun _ _ _ h => h) (Or.inl ⟨by rfl, ?_⟩) ?_
  rotate_left 1
  · (intro wL hL; have lL := (O8.out.but hL (fun h => h)).cell; have zL := (O8.out.but hL (fun h => h)).lt; go_simp; try with_reducible rfl)
  try simp only [Act.put, List.getElem_toArray, List.getElem_cons_zero, List.getElem_cons_succ, List.setIfInBounds_toArray, List.set_cons_zero, List.set_cons_succ]
  refine monoN_stay (i := 3) (v := ?_) rfl (by kernel_rfl) (by kernel_rfl) (by kernel_rfl) (fun _ _ _ h => h) (Or.inl ⟨by rfl, ?_⟩) ?_
  rotate_left 1
  · (intro wL hL; have lL := (O9.out.but hL (fun h => h)).cell; have zL := (O9.out.but hL (fun h => h)).lt; go_simp; try with_reducible rfl)
  try simp only [Act.put, List.getElem_toArray, List.getElem_cons_zero, List.getElem_cons_succ, List.setIfInBounds_toArray, List.set_cons_zero, List.set_cons_succ]
  refine monoN_stay (i := 5) (v := .agg (stA s (.slice oa1 s.f.kids.length ca1) (.slice ob1 s.store.length cb1) (.slice oc1 s.out.length cc1) (.slice od1 s.k.l.length cd1))) rfl (by kernel_rfl) (by kernel_rfl) (by kernel_rfl) (fun _ _ _ h => h) (Or.inl ⟨by rfl, fun wL hL => exec_load_mid 46 _ rfl (w1.heap.size) 0 (by rfl) ((stA s (.slice oa1 s.f.kids.length ca1) (.slice ob1 s.store.length cb1) (.slice oc1 s.out.length cc1) (.slice od1 s.k.l.length cd1)) : Array Value).toList _ ((O1.out.but hL (fun h => h)).part 0 _ (by rfl)) Tryz.underlying46 (by rfl) (by kernel_rfl)⟩) ?_
  try simp only [Act.put, List.getElem_toArray, List.getElem_cons_zero, List.getElem_cons_succ, List.setIfInBounds_toArray, List.set_cons_zero, List.set_cons_succ]
  refine monoN_stay (i := 6) (v := ?_) rfl (by kernel_rfl) (by kernel_rfl) (by kernel_rfl) (fun _ _ _ h => h) (Or.inl ⟨by rfl, ?_⟩) ?_
  rotate_left 1
  · (intro wL hL; go_simp; try with_reducible rfl)
  try simp only [Act.put, List.getElem_toArray, List.getElem_cons_zero, List.getElem_cons_succ, List.setIfInBounds_toArray, List.set_cons_zero, List.set_cons_succ]
  refine monoN_stay (i := 7) (v := ?_) rfl (by kernel_rfl) (by kernel_rfl) (by kernel_rfl) (fun _ _ _ h => h) (Or.inl ⟨by rfl, ?_⟩) ?_
  rotate_left 1
  · (intro wL hL; have lL := (O8.out.but hL (fun h => h)).cell; have zL := (O8.out.but hL (fun h => h)).lt; go_simp; try with_reducible rfl)
  try simp only [Act.put, List.getElem_toArray, List.getElem_cons_zero, List.getElem_cons_succ, List.setIfInBounds_toArray, List.set_cons_zero, List.set_cons_succ]
  refine monoN_stay (i := 8) (v := ?_) rfl (by kernel_rfl) (by kernel_rfl) (by kernel_rfl) (fun _ _ _ h => h) (Or.inl ⟨by rfl, ?_⟩) ?_
  rotate_left 1
  · (intro wL hL; have lL := (O9.out.but hL (fun h => h)).cell; have zL := (O9.out.but hL (fun h => h)).lt; go_simp; try with_reducible rfl)
  try simp only [Act.put, List.getElem_toArray, List.getElem_cons_zero, List.getElem_cons_succ, List.setIfInBounds_toArray, List.set_cons_zero, List.set_cons_succ]
  refine monoN_r1 (i := 4) (by kernel_rfl) ?_
  have z4O1 := O1.out.lt
  have z4O8 := O8.out.lt
  have z4O9 := O9.out.lt
  refine stepN_call (by rfl) (by rfl) (fun K hK => ?_)
  try simp only [List.getElem_toArray, List.getElem_cons_zero, List.getElem_cons_succ]
  (go_simp; go_at_call 15; (with_reducible refine (CG1 _ _ _ _ _ X1.out).out.mono ?_); rintro e w6 ⟨f8, s8, o8, k8, rfl, hst, hb⟩)
  try go_wp2_with fail
  refine hK.out _ _ (fun _ => hb) (But.of hb) ?_
  clear hK K
  replace O1 := Lib.hid (O1.out.later hb)
  replace O8 := Lib.hid (O8.out.later hb)
  replace O9 := Lib.hid (O9.out.later hb)
  replace BEL := Lib.hid (BEL.out.trans (Below.mono hb BEL.out.size))
  replace X1 := Lib.hid (X1.out.later hb)
  have X4 := Lib.hid hst.now
  clear hst
  clear hb
  try simp only [Act.put, List.getElem_toArray, List.getElem_cons_zero, List.getElem_cons_succ, List.setIfInBounds_toArray, List.set_cons_zero, List.set_cons_succ]
  refine monoN_r1 (i := 9) (by kernel_rfl) ?_
  have z9O1 := O1.out.lt
  have z9O8 := O8.out.lt
  have z9O9 := O9.out.lt
  refine stepN_call (by rfl) (by rfl) (fun K hK => ?_)
  try simp only [List.getElem_toArray, List.getElem_cons_zero, List.getElem_cons_succ]
  (go_simp; go_at_call 16; (with_reducible refine (CG2 _ _ _ _ _ X1.out).out.mono ?_); rintro e w7 ⟨f9, s9, o9, k9, rfl, hst, hb⟩)
  try go_wp2_with fail
  refine hK.out _ _ (fun _ => hb) (But.of hb) ?_
  clear hK K
  replace O1 := Lib.hid (O1.out.later hb)
  replace O8 := Lib.hid (O8.out.later hb)
  replace O9 := Lib.hid (O9.out.later hb)
  replace BEL := Lib.hid (BEL.out.trans (Below.mono hb BEL.out.size))
  replace X1 := Lib.hid (X1.out.later hb)
  replace X4 := Lib.hid (X4.out.later hb)
  have X5 := Lib.hid hst
  clear hst
  clear hb
  try simp only [Act.put, List.getElem_toArray, List.getElem_cons_zero, List.getElem_cons_succ, List.setIfInBounds_toArray, List.set_cons_zero, List.set_cons_succ]
  refine monoN_r1 (i := 10) (by kernel_rfl) ?_
  have z10O1 := O1.out.lt
  have z10O8 := O8.out.lt
  have z10O9 := O9.out.lt
  refine stepN_call (by rfl) (by rfl) (fun K hK => ?_)
  try simp only [List.getElem_toArray, List.getElem_cons_zero, List.getElem_cons_succ]
  (go_simp; go_at_call 13; (with_reducible refine (CG3 _ _ _ _ _ _ _ _ _ X4.out X5.out).out.mono ?_); rintro e w8 ⟨rfl, hb⟩)
  try go_wp2_with fail
  refine hK.out _ _ (fun _ => hb) (But.of hb) ?_
  clear hK K
  replace O1 := Lib.hid (O1.out.later hb)
  replace O8 := Lib.hid (O8.out.later hb)
  replace O9 := Lib.hid (O9.out.later hb)
  replace BEL := Lib.hid (BEL.out.trans (Below.mono hb BEL.out.size))
  replace X1 := Lib.hid (X1.out.later hb)
  replace X4 := Lib.hid (X4.out.later hb)
  replace X5 := Lib.hid (X5.out.later hb)
  clear hb
  try simp only [Act.put, List.getElem_toArray, List.getElem_cons_zero, List.getElem_cons_succ, List.setIfInBounds_toArray, List.set_cons_zero, List.set_cons_succ]
  refine monoN_stay (i := 11) (v := ?_) rfl (by kernel_rfl) (by kernel_rfl) (by kernel_rfl) (fun _ _ _ h => h) (Or.inl ⟨by rfl, ?_⟩) ?_
  rotate_left 1
  · (intro wL hL; go_simp; try with_reducible rfl)
  try simp only [Act.put, List.getElem_toArray, List.getElem_cons_zero, List.getElem_cons_succ, List.setIfInBounds_toArray, List.set_cons_zero, List.set_cons_succ]
  refine monoN_done (by kernel_rfl) ?_ _
  go_wp2_with fail
  go_ret
  exact ⟨rfl, BEL.out⟩
end Go.Proofs.YtjkcooakddlppaaGreat
