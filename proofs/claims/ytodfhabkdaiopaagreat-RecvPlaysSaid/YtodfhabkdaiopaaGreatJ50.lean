/- Joined: LocDo. -/
import Derived.Test.YtodfhabkdaiopaaGreatJ36
import Derived.Test.YtodfhabkdaiopaaGreatJ47
namespace Go.Proofs.YtodfhabkdaiopaaGreat
set_option linter.unusedVariables false
set_option linter.unusedSimpArgs false
set_option maxRecDepth 100000
set_option maxHeartbeats 8000000
open Go.RowKit
abbrev y50a:=@List.getElem_toArray
abbrev y50b:=@List.getElem_cons_zero
abbrev y50c:=@List.getElem_cons_succ
abbrev y50d:=@List.setIfInBounds_toArray
abbrev y50e:=@List.set_cons_zero
abbrev y50f:=@List.set_cons_succ
theorem y50h {p:Prop} (h:p):Go.RowKit.Hid p:=Lib.hid h
theorem zka {w7:World} {Bf:Nat} {s U:St} {fv sv ov kv v2 fv' sv' ov' kv':Value} {f:Pr} {B:Nat} (h:StN w7 Bf s.f fv s.store sv s.out ov s.k.l kv U fv' sv' ov' kv' ∨ StN w7 Bf f v2 s.store sv s.out ov s.k.l kv U fv' sv' ov' kv') (hF:LPF w7 B f v2) (hB:B≤Bf):StN w7 B s.f fv s.store sv s.out ov s.k.l kv U fv' sv' ov' kv':=by
 rcases h with h | h
 · exact h.mono hB
 · obtain ⟨h1,h2,h3,h4⟩:=h.mono hB
   refine ⟨.inr ?_,h2,h3,h4⟩
   rcases h1 with ⟨e,rfl⟩ | h1
   · rw [e];exact hF
   · exact h1
theorem zte (s:St) (fv sv ov kv:Value) (d:De) (gv:Value) (w:World) (hS:StW w s fv sv ov kv) (hD:DeW w d gv) (hG:Good s) (hB:StB s) (hsz:d.f.size≤60) :
   Calls Tryz.prog 22 #[stV s fv sv ov kv,deV d gv] w fun e w'=>∃ fv' sv' ov' kv',e=.returned (.tuple #[stV (doS s d) fv' sv' ov' kv',.int .i64 (doE s d)])∧StN w' w.heap.size s.f fv s.store sv s.out ov s.k.l kv (doS s d) fv' sv' ov' kv'∧Below w.heap.size w w':=by
 have OA:=y50h (((Own.new w (stA s fv sv ov kv) 40).alloc (.cells (deL d gv).toArray 54)).alloc (.cells stZ.toArray 40))
 have OD:=y50h ((Own.newAt (w.alloc (.cells (stA s fv sv ov kv) 40)) (deL d gv).toArray 54 (b:=w.heap.size + 1) (by simp)).alloc (.cells stZ.toArray 40))
 have OT:=y50h (Own.newAt ((w.alloc (.cells (stA s fv sv ov kv) 40)).alloc (.cells (deL d gv).toArray 54)) stZ.toArray 40 (b:=w.heap.size + 1 + 1) (by simp))
 have BEL:=y50h ((((Below.refl w.heap.size w).alloc (Nat.le_refl _) (.cells (stA s fv sv ov kv) 40)).alloc (by simp) (.cells (deL d gv).toArray 54)).alloc (by simp;omega) (.cells stZ.toArray 40))
 have CK:=fun w'=>y50h (zg6 d.what w')
 have HW:=y50h hS
 have HD:=y50h hD
 have lOD:=OD.out.cell
 have zOD:=OD.out.lt
 have hpk:=ziz d.what
 clear hS hD
 rcases (show za4 d.what=0 ∨ za4 d.what=1 ∨ za4 d.what=2 ∨ za4 d.what=3 by omega) with h0 | h1 | h2 | h3
 · have EU:doS s d=creS s (itS d.id d.kd d.num d.x d.y):=by unfold doS;simp [h0]
   have EE:doE s d=creE s (itS d.id d.kd d.num d.x d.y):=by unfold doE;simp [h0]
   rw [h0] at CK
   have HPV:=y50h HW.out.lf
   have CE:=fun w'=>y50h (show Calls Tryz.prog 14 #[errI (doE s d)] w' (fun e w''=>e=.returned (.int .i64 (doE s d))∧w'=w'') from by rw [EE];exact zdg (zyj s (itS d.id d.kd d.num d.x d.y)) w')
   have CC:=fun w' (hb:Below w.heap.size w w')=>y50h (show Calls Tryz.prog 74 #[stV s fv sv ov kv,.string d.id,.string d.kd,.int .i64 d.num,.complex .f64 d.x d.y] w' (fun e w''=>∃ fv' sv' ov' kv',e=.returned (.tuple #[stV (doS s d) fv' sv' ov' kv',errI (doE s d)])∧StN w'' w'.heap.size s.f fv s.store sv s.out ov s.k.l kv (doS s d) fv' sv' ov' kv'∧Below w'.heap.size w' w'') from by rw [EU,EE];exact zi6 s fv sv ov kv d.id d.kd d.num d.x d.y w' (HW.out.later hb) hG hB HD.out.id HD.out.kd)
   clear EU EE hpk
   generalize doS s d=U at *
   generalize doE s d=E at *
   go_enter Tryz.func22,Tryz.ntmps22
   go_upto_region 5 with (first | (go_at_call 16;refine (CK _).out.mono ?_;rintro e w1 ⟨rfl,rfl⟩) | (refine wpList_load_mid (by rfl) 40 _ (by rfl) w.heap.size 0 (by rfl) (stA s fv sv ov kv).toList _ OA.out.range Tryz.underlying40 (by rfl) (by kernel_rfl) ?_) | (go_at_call 74;refine (CC _ BEL.out).out.mono ?_;rintro e w3 ⟨fv',sv',ov',kv',rfl,hx,hb⟩;have hst:=hx.lies HPV.out HW.out.ls HW.out.lo HW.out.lk (BEL.out.trans (hb.mono BEL.out.size));have f1:fv'.oneCell'=true:=zas hst.lf;have f2:sv'.oneCell'=true:=(by obtain ⟨_,_,_,_,e,_⟩:=hst.ls;rw [e];rfl);have f3:ov'.oneCell'=true:=(by obtain ⟨_,_,_,_,e,_⟩:=hst.lo;rw [e];rfl);have f4:kv'.oneCell'=true:=(by obtain ⟨_,_,e⟩:=hst.lk.val;rw [e];rfl);unfold Value.oneCell' at f1 f2 f3 f4;have hB3:=y50h (show w.heap.size + 1 + 1 < _ from OT.out.lt);have HX:=y50h hx;have BE3:=y50h (BEL.out.trans (hb.mono BEL.out.size));have OT3:=y50h (OT.out.later hb);have O7:=y50h (Own.new w3 stZ.toArray 40);clear hst hx hb) | (refine wpList_store_mid (by rfl) 40 _ _ (by rfl) w3.heap.size 0 (stA U fv' sv' ov' kv') (by rfl) (by rfl) (O7.out.there (by rfl)) (by kernel_rfl) (by simp [Value.oneCell',f1,f2,f3,f4]) ?_;have HK:=y50h (And.intro (O7.out.sets (stA U fv' sv' ov' kv').toList (by rfl)) (And.intro ((OT3.out.alloc (.cells stZ.toArray 40)).setsFar (b:=w3.heap.size) (stA U fv' sv' ov' kv').toList 0 (by have:=OT3.out.lt;omega)) (And.intro (zaa (B:=w.heap.size) (b:=w3.heap.size) BE3.out.size (stA U fv' sv' ov' kv').toList 0 (BE3.out.alloc BE3.out.size (.cells stZ.toArray 40))) (HX.out.later (zaa (B:=w3.heap.size) (b:=w3.heap.size) (Nat.le_refl _) (stA U fv' sv' ov' kv').toList 0 ((Below.refl _ _).alloc (Nat.le_refl _) (.cells stZ.toArray 40)))))));revert HK;generalize World.setCells _ _ _ _=W7;intro HK) | fail)
   refine za2 3 (by kernel_rfl) (by kernel_rfl) ?_
   simp only [List.take_succ_cons,List.take_zero,List.drop_succ_cons,List.drop_zero]
   refine wpStill_step (fun K hK=>?_)
   rw [if_pos (by rfl)]
   refine zch 40 _ rfl w3.heap.size 0 (by rfl) (stA U fv' sv' ov' kv').toList _ (HK.out.1.drew.range) Tryz.underlying40 (by rfl) (by kernel_rfl) (hK _ ?_)
   clear hK K
   still_step
   refine wpStill_step (fun K hK=>?_)
   go_simp
   refine ⟨_,zd5 (CE _).out,hK _ ?_⟩
   clear hK K
   refine wpStill_nil ?_
   go_wp2_with (first | (refine wpList_store_mid (by rfl) 40 _ _ (by rfl) (w.heap.size + 1 + 1) 0 (stA U fv' sv' ov' kv') (by rfl) (by rfl) (HK.out.2.1.drew.there (by rfl)) (by kernel_rfl) (by simp [Value.oneCell',f1,f2,f3,f4]) ?_;have HE:=y50h (And.intro (HK.out.2.1.drew.sets (stA U fv' sv' ov' kv').toList (by rfl)) (And.intro (zaa (B:=w.heap.size) (b:=w.heap.size + 1 + 1) (by omega) (stA U fv' sv' ov' kv').toList 0 HK.out.2.2.1.drew) ((HK.out.2.2.2.later (Below.refl _ _).drew).sets (b:=w.heap.size + 1 + 1) hB3.out (stA U fv' sv' ov' kv').toList)));revert HE;generalize World.setCells _ _ _ _=WW;intro HE) | fail)
   exact zab (by rfl) (by rfl) (by rfl) HE.out.1.range Tryz.underlying40 (by rfl) (by kernel_rfl) rfl ⟨fv',sv',ov',kv',rfl,HE.out.2.2.mono (by first | (have:=hB3.out;omega) | (have:=hB0.out;omega)),HE.out.2.1⟩
 · have EU:doS s d=updS s (itS d.id d.kd d.num d.x d.y):=by unfold doS;simp [h1]
   have EE:doE s d=updE s (itS d.id d.kd d.num d.x d.y):=by unfold doE;simp [h1]
   rw [h1] at CK
   have HPV:=y50h HW.out.lf
   have CE:=fun w'=>y50h (show Calls Tryz.prog 14 #[errI (doE s d)] w' (fun e w''=>e=.returned (.int .i64 (doE s d))∧w'=w'') from by rw [EE];exact zdg (zzg s (itS d.id d.kd d.num d.x d.y)) w')
   have CC:=fun w' (hb:Below w.heap.size w w')=>y50h (show Calls Tryz.prog 75 #[stV s fv sv ov kv,.string d.id,.string d.kd,.int .i64 d.num,.complex .f64 d.x d.y] w' (fun e w''=>∃ fv' sv' ov' kv',e=.returned (.tuple #[stV (doS s d) fv' sv' ov' kv',errI (doE s d)])∧StN w'' w'.heap.size s.f fv s.store sv s.out ov s.k.l kv (doS s d) fv' sv' ov' kv'∧Below w'.heap.size w' w'') from by rw [EU,EE];exact zi9 s fv sv ov kv d.id d.kd d.num d.x d.y w' (HW.out.later hb) hG hB HD.out.id HD.out.kd)
   clear EU EE hpk
   generalize doS s d=U at *
   generalize doE s d=E at *
   go_enter Tryz.func22,Tryz.ntmps22
   go_upto_region 8 with (first | (go_at_call 16;refine (CK _).out.mono ?_;rintro e w1 ⟨rfl,rfl⟩) | (refine wpList_load_mid (by rfl) 40 _ (by rfl) w.heap.size 0 (by rfl) (stA s fv sv ov kv).toList _ OA.out.range Tryz.underlying40 (by rfl) (by kernel_rfl) ?_) | (go_at_call 75;refine (CC _ BEL.out).out.mono ?_;rintro e w3 ⟨fv',sv',ov',kv',rfl,hx,hb⟩;have hst:=hx.lies HPV.out HW.out.ls HW.out.lo HW.out.lk (BEL.out.trans (hb.mono BEL.out.size));have f1:fv'.oneCell'=true:=zas hst.lf;have f2:sv'.oneCell'=true:=(by obtain ⟨_,_,_,_,e,_⟩:=hst.ls;rw [e];rfl);have f3:ov'.oneCell'=true:=(by obtain ⟨_,_,_,_,e,_⟩:=hst.lo;rw [e];rfl);have f4:kv'.oneCell'=true:=(by obtain ⟨_,_,e⟩:=hst.lk.val;rw [e];rfl);unfold Value.oneCell' at f1 f2 f3 f4;have hB3:=y50h (show w.heap.size + 1 + 1 < _ from OT.out.lt);have HX:=y50h hx;have BE3:=y50h (BEL.out.trans (hb.mono BEL.out.size));have OT3:=y50h (OT.out.later hb);have O7:=y50h (Own.new w3 stZ.toArray 40);clear hst hx hb) | (refine wpList_store_mid (by rfl) 40 _ _ (by rfl) w3.heap.size 0 (stA U fv' sv' ov' kv') (by rfl) (by rfl) (O7.out.there (by rfl)) (by kernel_rfl) (by simp [Value.oneCell',f1,f2,f3,f4]) ?_;have HK:=y50h (And.intro (O7.out.sets (stA U fv' sv' ov' kv').toList (by rfl)) (And.intro ((OT3.out.alloc (.cells stZ.toArray 40)).setsFar (b:=w3.heap.size) (stA U fv' sv' ov' kv').toList 0 (by have:=OT3.out.lt;omega)) (And.intro (zaa (B:=w.heap.size) (b:=w3.heap.size) BE3.out.size (stA U fv' sv' ov' kv').toList 0 (BE3.out.alloc BE3.out.size (.cells stZ.toArray 40))) (HX.out.later (zaa (B:=w3.heap.size) (b:=w3.heap.size) (Nat.le_refl _) (stA U fv' sv' ov' kv').toList 0 ((Below.refl _ _).alloc (Nat.le_refl _) (.cells stZ.toArray 40)))))));revert HK;generalize World.setCells _ _ _ _=W7;intro HK) | fail)
   refine za2 3 (by kernel_rfl) (by kernel_rfl) ?_
   simp only [List.take_succ_cons,List.take_zero,List.drop_succ_cons,List.drop_zero]
   refine wpStill_step (fun K hK=>?_)
   rw [if_pos (by rfl)]
   refine zch 40 _ rfl w3.heap.size 0 (by rfl) (stA U fv' sv' ov' kv').toList _ (HK.out.1.drew.range) Tryz.underlying40 (by rfl) (by kernel_rfl) (hK _ ?_)
   clear hK K
   still_step
   refine wpStill_step (fun K hK=>?_)
   go_simp
   refine ⟨_,zd5 (CE _).out,hK _ ?_⟩
   clear hK K
   refine wpStill_nil ?_
   go_wp2_with (first | (refine wpList_store_mid (by rfl) 40 _ _ (by rfl) (w.heap.size + 1 + 1) 0 (stA U fv' sv' ov' kv') (by rfl) (by rfl) (HK.out.2.1.drew.there (by rfl)) (by kernel_rfl) (by simp [Value.oneCell',f1,f2,f3,f4]) ?_;have HE:=y50h (And.intro (HK.out.2.1.drew.sets (stA U fv' sv' ov' kv').toList (by rfl)) (And.intro (zaa (B:=w.heap.size) (b:=w.heap.size + 1 + 1) (by omega) (stA U fv' sv' ov' kv').toList 0 HK.out.2.2.1.drew) ((HK.out.2.2.2.later (Below.refl _ _).drew).sets (b:=w.heap.size + 1 + 1) hB3.out (stA U fv' sv' ov' kv').toList)));revert HE;generalize World.setCells _ _ _ _=WW;intro HE) | fail)
   exact zab (by rfl) (by rfl) (by rfl) HE.out.1.range Tryz.underlying40 (by rfl) (by kernel_rfl) rfl ⟨fv',sv',ov',kv',rfl,HE.out.2.2.mono (by first | (have:=hB3.out;omega) | (have:=hB0.out;omega)),HE.out.2.1⟩
 · have EU:doS s d=delS s d.id:=by unfold doS;simp [h2]
   have EE:doE s d=delE s d.id:=by unfold doE;simp [h2]
   rw [h2] at CK
   have HPV:=y50h HW.out.lf
   have CE:=fun w'=>y50h (show Calls Tryz.prog 14 #[errI (doE s d)] w' (fun e w''=>e=.returned (.int .i64 (doE s d))∧w'=w'') from by rw [EE];exact zdg (zyk s d.id) w')
   have CC:=fun w' (hb:Below w.heap.size w w')=>y50h (show Calls Tryz.prog 76 #[stV s fv sv ov kv,.string d.id] w' (fun e w''=>∃ fv' sv' ov' kv',e=.returned (.tuple #[stV (doS s d) fv' sv' ov' kv',errI (doE s d)])∧StN w'' w'.heap.size s.f fv s.store sv s.out ov s.k.l kv (doS s d) fv' sv' ov' kv'∧Below w'.heap.size w' w'') from by rw [EU,EE];exact zi7 s fv sv ov kv d.id w' (HW.out.later hb) hG hB HD.out.id)
   clear EU EE hpk
   generalize doS s d=U at *
   generalize doE s d=E at *
   go_enter Tryz.func22,Tryz.ntmps22
   go_upto_region 11 with (first | (go_at_call 16;refine (CK _).out.mono ?_;rintro e w1 ⟨rfl,rfl⟩) | (refine wpList_load_mid (by rfl) 40 _ (by rfl) w.heap.size 0 (by rfl) (stA s fv sv ov kv).toList _ OA.out.range Tryz.underlying40 (by rfl) (by kernel_rfl) ?_) | (go_at_call 76;refine (CC _ BEL.out).out.mono ?_;rintro e w3 ⟨fv',sv',ov',kv',rfl,hx,hb⟩;have hst:=hx.lies HPV.out HW.out.ls HW.out.lo HW.out.lk (BEL.out.trans (hb.mono BEL.out.size));have f1:fv'.oneCell'=true:=zas hst.lf;have f2:sv'.oneCell'=true:=(by obtain ⟨_,_,_,_,e,_⟩:=hst.ls;rw [e];rfl);have f3:ov'.oneCell'=true:=(by obtain ⟨_,_,_,_,e,_⟩:=hst.lo;rw [e];rfl);have f4:kv'.oneCell'=true:=(by obtain ⟨_,_,e⟩:=hst.lk.val;rw [e];rfl);unfold Value.oneCell' at f1 f2 f3 f4;have hB3:=y50h (show w.heap.size + 1 + 1 < _ from OT.out.lt);have HX:=y50h hx;have BE3:=y50h (BEL.out.trans (hb.mono BEL.out.size));have OT3:=y50h (OT.out.later hb);have O7:=y50h (Own.new w3 stZ.toArray 40);clear hst hx hb) | (refine wpList_store_mid (by rfl) 40 _ _ (by rfl) w3.heap.size 0 (stA U fv' sv' ov' kv') (by rfl) (by rfl) (O7.out.there (by rfl)) (by kernel_rfl) (by simp [Value.oneCell',f1,f2,f3,f4]) ?_;have HK:=y50h (And.intro (O7.out.sets (stA U fv' sv' ov' kv').toList (by rfl)) (And.intro ((OT3.out.alloc (.cells stZ.toArray 40)).setsFar (b:=w3.heap.size) (stA U fv' sv' ov' kv').toList 0 (by have:=OT3.out.lt;omega)) (And.intro (zaa (B:=w.heap.size) (b:=w3.heap.size) BE3.out.size (stA U fv' sv' ov' kv').toList 0 (BE3.out.alloc BE3.out.size (.cells stZ.toArray 40))) (HX.out.later (zaa (B:=w3.heap.size) (b:=w3.heap.size) (Nat.le_refl _) (stA U fv' sv' ov' kv').toList 0 ((Below.refl _ _).alloc (Nat.le_refl _) (.cells stZ.toArray 40)))))));revert HK;generalize World.setCells _ _ _ _=W7;intro HK) | fail)
   refine za2 3 (by kernel_rfl) (by kernel_rfl) ?_
   simp only [List.take_succ_cons,List.take_zero,List.drop_succ_cons,List.drop_zero]
   refine wpStill_step (fun K hK=>?_)
   rw [if_pos (by rfl)]
   refine zch 40 _ rfl w3.heap.size 0 (by rfl) (stA U fv' sv' ov' kv').toList _ (HK.out.1.drew.range) Tryz.underlying40 (by rfl) (by kernel_rfl) (hK _ ?_)
   clear hK K
   still_step
   refine wpStill_step (fun K hK=>?_)
   go_simp
   refine ⟨_,zd5 (CE _).out,hK _ ?_⟩
   clear hK K
   refine wpStill_nil ?_
   go_wp2_with (first | (refine wpList_store_mid (by rfl) 40 _ _ (by rfl) (w.heap.size + 1 + 1) 0 (stA U fv' sv' ov' kv') (by rfl) (by rfl) (HK.out.2.1.drew.there (by rfl)) (by kernel_rfl) (by simp [Value.oneCell',f1,f2,f3,f4]) ?_;have HE:=y50h (And.intro (HK.out.2.1.drew.sets (stA U fv' sv' ov' kv').toList (by rfl)) (And.intro (zaa (B:=w.heap.size) (b:=w.heap.size + 1 + 1) (by omega) (stA U fv' sv' ov' kv').toList 0 HK.out.2.2.1.drew) ((HK.out.2.2.2.later (Below.refl _ _).drew).sets (b:=w.heap.size + 1 + 1) hB3.out (stA U fv' sv' ov' kv').toList)));revert HE;generalize World.setCells _ _ _ _=WW;intro HE) | fail)
   exact zab (by rfl) (by rfl) (by rfl) HE.out.1.range Tryz.underlying40 (by rfl) (by kernel_rfl) rfl ⟨fv',sv',ov',kv',rfl,HE.out.2.2.mono (by first | (have:=hB3.out;omega) | (have:=hB0.out;omega)),HE.out.2.1⟩
 · have EU:doS s d=filS s d.f:=by unfold doS;simp [h3]
   have EE:doE s d=filE s d.f:=by unfold doE;simp [h3]
   rw [h3] at CK
   have HPV:=y50h HW.out.lf
   have CE:=fun w'=>y50h (show Calls Tryz.prog 14 #[errI (doE s d)] w' (fun e w''=>e=.returned (.int .i64 (doE s d))∧w'=w'') from by rw [EE];exact zdg (zyp s d.f) w')
   have CP:=fun w' h=>y50h (zgt d.f gv w' h hsz)
   have CC:=fun v2 w' (hb:Below w.heap.size w w') (hl:LP w' d.f v2)=>y50h (show Calls Tryz.prog 77 #[stV s fv sv ov kv,prV d.f v2] w' (fun e w''=>∃ fv' sv' ov' kv',e=.returned (.tuple #[stV (doS s d) fv' sv' ov' kv',errI (doE s d)])∧(StN w'' w'.heap.size s.f fv s.store sv s.out ov s.k.l kv (doS s d) fv' sv' ov' kv' ∨ StN w'' w'.heap.size d.f v2 s.store sv s.out ov s.k.l kv (doS s d) fv' sv' ov' kv')∧Below w'.heap.size w' w'') from by
     rw [EU,EE]
     refine (zi8 s fv sv ov kv d.f v2 w' (HW.out.later hb) hG hB hl hsz).mono ?_
     rintro e w'' (⟨fv',sv',ov',kv',he,hx,hb⟩ | ⟨fv',sv',ov',kv',he,hx,hb⟩)
     · exact ⟨fv',sv',ov',kv',he,.inl hx,hb⟩
     · exact ⟨fv',sv',ov',kv',he,.inr hx,hb⟩)
   clear EU EE hpk
   generalize doS s d=U at *
   generalize doE s d=E at *
   go_enter Tryz.func22,Tryz.ntmps22
   go_upto_region 12 with (first | (go_at_call 16;refine (CK _).out.mono ?_;rintro e w1 ⟨rfl,rfl⟩) | fail)
   have HP:=And.intro OA.out (And.intro OD.out (And.intro OT.out BEL.out))
   clear OA OD OT BEL lOD zOD
   revert HP
   generalize World.alloc (World.alloc (World.alloc w _) _) _=wA
   intro HP
   have OA:=y50h HP.1.drew
   have OD:=y50h HP.2.1.drew
   have OT:=y50h HP.2.2.1.drew
   have BEL:=y50h HP.2.2.2.drew
   clear HP
   refine wp_region_held_drew (S:=(fun w'=>(∀ o,w'.cell? ⟨w.heap.size,o,none⟩=(stA s fv sv ov kv)[o]?)∧∀ o,w'.cell? ⟨w.heap.size + 1,o,none⟩=(deL d gv).toArray[o]?)) (by kernel_rfl) (by exact ⟨OA.out.cell,OD.out.cell⟩) (fun hHeld=>?_)
   refine wpAnyH_take (i:=0) (v:=stV s fv sv ov kv) rfl (by kernel_rfl) (by kernel_rfl) (by kernel_rfl) (fun _ _ _ h=>h) (Or.inl ⟨by rfl,fun w5 h5=>zc9 40 _ rfl w.heap.size 0 (by rfl) (stA s fv sv ov kv).toList _ (fun j v hv=>by rw [Nat.zero_add,h5.1 j];simpa using hv) Tryz.underlying40 (by rfl) (by kernel_rfl)⟩) (by assumption) ?_
   try simp only [Act.put,y50a,y50b,y50c,y50d,y50e,y50f]
   refine wpAnyH_take (i:=1) (v:=?_) rfl (by kernel_rfl) (by kernel_rfl) (by kernel_rfl) (fun _ _ _ h=>h) (Or.inl ⟨by rfl,?_⟩) (by assumption) ?_
   rotate_left 1
   · (intro w hSw;(try dsimp only at hSw);go_simp;try with_reducible rfl)
   try simp only [Act.put,y50a,y50b,y50c,y50d,y50e,y50f]
   refine wpAnyH_take (i:=2) (v:=?_) rfl (by kernel_rfl) (by kernel_rfl) (by kernel_rfl) (fun _ _ _ h=>h) (Or.inl ⟨by rfl,?_⟩) (by assumption) ?_
   rotate_left 1
   · (intro w hSw;(try dsimp only at hSw);go_simp;try with_reducible rfl)
   try simp only [Act.put,y50a,y50b,y50c,y50d,y50e,y50f]
   refine wpAnyH_ready (rs:=[3,8]) (by kernel_rfl) (by simp) ?_
   refine AllReadyH.cons rfl (fun K hK=>?_) (AllReadyH.cons rfl (fun K hK=>?_) (AllReadyH.nil))
   · try simp only [y50a,y50b,y50c]
     (go_simp;go_at_call 12;refine (CP _ (HD.out.lf.later BEL.out (Nat.le_refl _))).out.mono ?_;rintro e w2 ⟨v2,rfl,hl2,hb⟩;have hB0:=y50h OT.out.lt;have HL2:=y50h (show LPF w2 _ d.f v2 from hl2);have hB2:=y50h (show _≤w2.heap.size from hb.size);have BW2:=y50h (Below.refl w2.heap.size w2);replace OA:=y50h (OA.out.later hb);replace OD:=y50h (OD.out.later hb);replace OT:=y50h (OT.out.later hb);replace BEL:=y50h (BEL.out.trans (hb.mono BEL.out.size));clear hl2 hb)
     try go_wp2_with fail
     refine hK.out _ _ (by exact ⟨OA.out.cell,OD.out.cell⟩) (fun hHeld=>?_)
     clear hK K
     try simp only [Act.put,y50a,y50b,y50c,y50d,y50e,y50f]
     refine wpAnyH_ready (rs:=[4,8]) (by kernel_rfl) (by simp) ?_
     refine AllReadyH.cons rfl (fun K hK=>?_) (AllReadyH.cons rfl (fun K hK=>?_) (AllReadyH.nil))
     · try simp only [y50a,y50b,y50c]
       (go_simp;go_at_call 77;refine (CC _ _ BEL.out (HL2.out.later BW2.out).lp).out.mono ?_;rintro e w3 ⟨fv',sv',ov',kv',rfl,hor,hb⟩;have HBF:=y50h (Nat.le_trans hB2.out BW2.out.size);have hst:=(zi5 hor (HL2.out.later BW2.out) HBF.out hb).lies HPV.out HW.out.ls HW.out.lo HW.out.lk (BEL.out.trans (hb.mono BEL.out.size));have f1:fv'.oneCell'=true:=zas hst.lf;have f2:sv'.oneCell'=true:=(by obtain ⟨_,_,_,_,e,_⟩:=hst.ls;rw [e];rfl);have f3:ov'.oneCell'=true:=(by obtain ⟨_,_,_,_,e,_⟩:=hst.lo;rw [e];rfl);have f4:kv'.oneCell'=true:=(by obtain ⟨_,_,e⟩:=hst.lk.val;rw [e];rfl);unfold Value.oneCell' at f1 f2 f3 f4;have HOR:=y50h hor;replace BW2:=y50h (BW2.out.trans (hb.mono BW2.out.size));replace OA:=y50h (OA.out.later hb);replace OD:=y50h (OD.out.later hb);replace OT:=y50h (OT.out.later hb);replace BEL:=y50h (BEL.out.trans (hb.mono BEL.out.size));clear hst hor hb)
       try go_wp2_with fail
       refine hK.out _ _ (by exact ⟨OA.out.cell,OD.out.cell⟩) (fun hHeld=>?_)
       clear hK K
       try simp only [Act.put,y50a,y50b,y50c,y50d,y50e,y50f]
       refine wpAnyH_take (i:=5) (v:=?_) rfl (by kernel_rfl) (by kernel_rfl) (by kernel_rfl) (fun _ _ _ h=>h) (Or.inl ⟨by rfl,?_⟩) (by assumption) ?_
       rotate_left 1
       · (intro w hSw;(try dsimp only at hSw);go_simp;try with_reducible rfl)
       try simp only [Act.put,y50a,y50b,y50c,y50d,y50e,y50f]
       refine wpAnyH_take (i:=6) (v:=?_) rfl (by kernel_rfl) (by kernel_rfl) (by kernel_rfl) (fun _ _ _ h=>h) (Or.inl ⟨by rfl,?_⟩) (by assumption) ?_
       rotate_left 1
       · (intro w hSw;(try dsimp only at hSw);go_simp;try with_reducible rfl)
       try simp only [Act.put,y50a,y50b,y50c,y50d,y50e,y50f]
       refine wpAnyH_take (i:=7) (v:=?_) rfl (by kernel_rfl) (by kernel_rfl) (by kernel_rfl) (fun _ _ _ h=>h) (Or.inl ⟨by rfl,?_⟩) (by assumption) ?_
       rotate_left 1
       · (intro w hSw;(try dsimp only at hSw);go_simp;try with_reducible rfl)
       try simp only [Act.put,y50a,y50b,y50c,y50d,y50e,y50f]
       refine wpAnyH_ready (rs:=[8]) (by kernel_rfl) (by simp) ?_
       refine AllReadyH.cons rfl (fun K hK=>?_) (AllReadyH.nil)
       · try simp only [y50a,y50b,y50c]
         go_simp
         have H13:=y50h (show w.heap.size + 1 + 1 < w3.heap.size from OT.out.lt)
         have H2L:=y50h BW2.out.size
         have HP:=And.intro (OA.out.alloc (.cells stZ.toArray 40)) (And.intro (OD.out.alloc (.cells stZ.toArray 40)) (And.intro (OT.out.alloc (.cells stZ.toArray 40)) (And.intro (Own.new w3 stZ.toArray 40) (And.intro (BEL.out.alloc BEL.out.size (.cells stZ.toArray 40)) (And.intro (BW2.out.alloc BW2.out.size (.cells stZ.toArray 40)) ((Below.refl w3.heap.size w3).alloc (Nat.le_refl _) (.cells stZ.toArray 40)))))))
         clear OA OD OT BEL BW2 hHeld
         revert HP
         generalize World.alloc w3 _=wB
         intro HP
         have OA:=y50h HP.1
         have OD:=y50h HP.2.1
         have OT:=y50h HP.2.2.1
         have O7:=y50h HP.2.2.2.1
         have BEL:=y50h HP.2.2.2.2.1
         have BW2:=y50h HP.2.2.2.2.2.1
         have BW3:=y50h HP.2.2.2.2.2.2
         clear HP
         refine hK.out _ _ (by exact ⟨OA.out.cell,OD.out.cell⟩) (fun hHeld=>?_)
         clear hK K
         try simp only [Act.put,y50a,y50b,y50c,y50d,y50e,y50f]
         refine wpAnyH_ready (rs:=[9]) (by kernel_rfl) (by simp) ?_
         refine AllReadyH.cons rfl (fun K hK=>?_) AllReadyH.nil
         try simp only [y50a,y50b,y50c]
         first | rw [if_pos (by rfl)] | skip
         have HK:=y50h (And.intro (O7.out.sets (stA U fv' sv' ov' kv').toList (by rfl)) (And.intro (OT.out.setsFar (b:=w3.heap.size) (stA U fv' sv' ov' kv').toList 0 (by have:=H13.out;omega)) (And.intro (zaa (B:=w.heap.size) (b:=w3.heap.size) (by have:=H13.out;omega) (stA U fv' sv' ov' kv').toList 0 BEL.out) (And.intro (zka (HOR.out.imp (fun h=>h.later (zaa (B:=w3.heap.size) (b:=w3.heap.size) (Nat.le_refl _) (stA U fv' sv' ov' kv').toList 0 BW3.out)) (fun h=>h.later (zaa (B:=w3.heap.size) (b:=w3.heap.size) (Nat.le_refl _) (stA U fv' sv' ov' kv').toList 0 BW3.out))) (HL2.out.later (zaa (B:=w2.heap.size) (b:=w3.heap.size) H2L.out (stA U fv' sv' ov' kv').toList 0 BW2.out)) HBF.out) (And.intro (OA.out.setsFar (b:=w3.heap.size) (stA U fv' sv' ov' kv').toList 0 (by have:=H13.out;omega)) (OD.out.setsFar (b:=w3.heap.size) (stA U fv' sv' ov' kv').toList 0 (by have:=H13.out;omega)))))))
         refine wp_store_mid 40 _ _ rfl w3.heap.size 0 (stA U fv' sv' ov' kv') (by rfl) (by rfl) (O7.out.there (by rfl)) (by kernel_rfl) (by simp [Value.oneCell',f1,f2,f3,f4]) ?_
         refine hK.out _ _ (by exact ⟨HK.out.2.2.2.2.1.cell,HK.out.2.2.2.2.2.cell⟩) (fun hHeld=>?_)
         clear hK K hHeld
         revert HK
         generalize World.setCells _ _ _ _=W7
         intro HK
         have hHeld:=And.intro HK.out.2.2.2.2.1.cell HK.out.2.2.2.2.2.cell
         try simp only [Act.put,y50a,y50b,y50c,y50d,y50e,y50f]
         refine wpAnyH_take (i:=10) (v:=?_) rfl (by kernel_rfl) (by kernel_rfl) (by kernel_rfl) (fun _ _ _ h=>h) (Or.inl ⟨by rfl,?_⟩) (by assumption) ?_
         rotate_left 1
         · (intro w hSw;(try dsimp only at hSw);go_simp;try with_reducible rfl)
         try simp only [Act.put,y50a,y50b,y50c,y50d,y50e,y50f]
         refine wpAnyH_done (by kernel_rfl) ?_ _
         clear hHeld
         replace HK:=y50h (And.intro HK.out.1 (And.intro HK.out.2.1 (And.intro HK.out.2.2.1 HK.out.2.2.2.1)))
         have hB3:=hB0
         go_upto_region 13 with fail
         refine za2 3 (by kernel_rfl) (by kernel_rfl) ?_
         simp only [List.take_succ_cons,List.take_zero,List.drop_succ_cons,List.drop_zero]
         refine wpStill_step (fun K hK=>?_)
         rw [if_pos (by rfl)]
         refine zch 40 _ rfl w3.heap.size 0 (by rfl) (stA U fv' sv' ov' kv').toList _ (HK.out.1.drew.range) Tryz.underlying40 (by rfl) (by kernel_rfl) (hK _ ?_)
         clear hK K
         still_step
         refine wpStill_step (fun K hK=>?_)
         go_simp
         refine ⟨_,zd5 (CE _).out,hK _ ?_⟩
         clear hK K
         refine wpStill_nil ?_
         go_wp2_with (first | (refine wpList_store_mid (by rfl) 40 _ _ (by rfl) (w.heap.size + 1 + 1) 0 (stA U fv' sv' ov' kv') (by rfl) (by rfl) (HK.out.2.1.drew.there (by rfl)) (by kernel_rfl) (by simp [Value.oneCell',f1,f2,f3,f4]) ?_;have HE:=y50h (And.intro (HK.out.2.1.drew.sets (stA U fv' sv' ov' kv').toList (by rfl)) (And.intro (zaa (B:=w.heap.size) (b:=w.heap.size + 1 + 1) (by omega) (stA U fv' sv' ov' kv').toList 0 HK.out.2.2.1.drew) ((HK.out.2.2.2.later (Below.refl _ _).drew).sets (b:=w.heap.size + 1 + 1) hB3.out (stA U fv' sv' ov' kv').toList)));revert HE;generalize World.setCells _ _ _ _=WW;intro HE) | fail)
         exact zab (by rfl) (by rfl) (by rfl) HE.out.1.range Tryz.underlying40 (by rfl) (by kernel_rfl) rfl ⟨fv',sv',ov',kv',rfl,HE.out.2.2.mono (by first | (have:=hB3.out;omega) | (have:=hB0.out;omega)),HE.out.2.1⟩
     · try simp only [y50a,y50b,y50c]
       go_simp
       have H13:=y50h (show w.heap.size + 1 + 1 < w2.heap.size from OT.out.lt)
       have H2L:=y50h BW2.out.size
       have HP:=And.intro (OA.out.alloc (.cells stZ.toArray 40)) (And.intro (OD.out.alloc (.cells stZ.toArray 40)) (And.intro (OT.out.alloc (.cells stZ.toArray 40)) (And.intro (Own.new w2 stZ.toArray 40) (And.intro (BEL.out.alloc BEL.out.size (.cells stZ.toArray 40)) (BW2.out.alloc BW2.out.size (.cells stZ.toArray 40))))))
       clear OA OD OT BEL BW2 hHeld
       revert HP
       generalize World.alloc w2 _=wB
       intro HP
       have OA:=y50h HP.1
       have OD:=y50h HP.2.1
       have OT:=y50h HP.2.2.1
       have O7:=y50h HP.2.2.2.1
       have BEL:=y50h HP.2.2.2.2.1
       have BW2:=y50h HP.2.2.2.2.2
       clear HP
       refine hK.out _ _ (by exact ⟨OA.out.cell,OD.out.cell⟩) (fun hHeld=>?_)
       clear hK K
       try simp only [Act.put,y50a,y50b,y50c,y50d,y50e,y50f]
       refine wpAnyH_ready (rs:=[4]) (by kernel_rfl) (by simp) ?_
       refine AllReadyH.cons rfl (fun K hK=>?_) (AllReadyH.nil)
       · try simp only [y50a,y50b,y50c]
         (go_simp;go_at_call 77;refine (CC _ _ BEL.out (HL2.out.later BW2.out).lp).out.mono ?_;rintro e w3 ⟨fv',sv',ov',kv',rfl,hor,hb⟩;have HBF:=y50h (Nat.le_trans hB2.out BW2.out.size);have hst:=(zi5 hor (HL2.out.later BW2.out) HBF.out hb).lies HPV.out HW.out.ls HW.out.lo HW.out.lk (BEL.out.trans (hb.mono BEL.out.size));have f1:fv'.oneCell'=true:=zas hst.lf;have f2:sv'.oneCell'=true:=(by obtain ⟨_,_,_,_,e,_⟩:=hst.ls;rw [e];rfl);have f3:ov'.oneCell'=true:=(by obtain ⟨_,_,_,_,e,_⟩:=hst.lo;rw [e];rfl);have f4:kv'.oneCell'=true:=(by obtain ⟨_,_,e⟩:=hst.lk.val;rw [e];rfl);unfold Value.oneCell' at f1 f2 f3 f4;have HOR:=y50h hor;have HLT:=y50h O7.out.lt;replace BW2:=y50h (BW2.out.trans (hb.mono BW2.out.size));replace OA:=y50h (OA.out.later hb);replace OD:=y50h (OD.out.later hb);replace OT:=y50h (OT.out.later hb);replace O7:=y50h (O7.out.later hb);replace BEL:=y50h (BEL.out.trans (hb.mono BEL.out.size));clear hst hor hb)
         try go_wp2_with fail
         refine hK.out _ _ (by exact ⟨OA.out.cell,OD.out.cell⟩) (fun hHeld=>?_)
         clear hK K
         try simp only [Act.put,y50a,y50b,y50c,y50d,y50e,y50f]
         refine wpAnyH_take (i:=5) (v:=?_) rfl (by kernel_rfl) (by kernel_rfl) (by kernel_rfl) (fun _ _ _ h=>h) (Or.inl ⟨by rfl,?_⟩) (by assumption) ?_
         rotate_left 1
         · (intro w hSw;(try dsimp only at hSw);go_simp;try with_reducible rfl)
         try simp only [Act.put,y50a,y50b,y50c,y50d,y50e,y50f]
         refine wpAnyH_take (i:=6) (v:=?_) rfl (by kernel_rfl) (by kernel_rfl) (by kernel_rfl) (fun _ _ _ h=>h) (Or.inl ⟨by rfl,?_⟩) (by assumption) ?_
         rotate_left 1
         · (intro w hSw;(try dsimp only at hSw);go_simp;try with_reducible rfl)
         try simp only [Act.put,y50a,y50b,y50c,y50d,y50e,y50f]
         refine wpAnyH_take (i:=7) (v:=?_) rfl (by kernel_rfl) (by kernel_rfl) (by kernel_rfl) (fun _ _ _ h=>h) (Or.inl ⟨by rfl,?_⟩) (by assumption) ?_
         rotate_left 1
         · (intro w hSw;(try dsimp only at hSw);go_simp;try with_reducible rfl)
         try simp only [Act.put,y50a,y50b,y50c,y50d,y50e,y50f]
         refine wpAnyH_ready (rs:=[9]) (by kernel_rfl) (by simp) ?_
         refine AllReadyH.cons rfl (fun K hK=>?_) AllReadyH.nil
         try simp only [y50a,y50b,y50c]
         first | rw [if_pos (by rfl)] | skip
         have HK:=y50h (And.intro (O7.out.sets (stA U fv' sv' ov' kv').toList (by rfl)) (And.intro (OT.out.setsFar (b:=w2.heap.size) (stA U fv' sv' ov' kv').toList 0 (by have:=H13.out;omega)) (And.intro (zaa (B:=w.heap.size) (b:=w2.heap.size) (by have:=H13.out;omega) (stA U fv' sv' ov' kv').toList 0 BEL.out) (And.intro (zka (HOR.out.imp (fun h=>h.sets HLT.out (stA U fv' sv' ov' kv').toList) (fun h=>h.sets HLT.out (stA U fv' sv' ov' kv').toList)) (HL2.out.later (zaa (B:=w2.heap.size) (b:=w2.heap.size) H2L.out (stA U fv' sv' ov' kv').toList 0 BW2.out)) HBF.out) (And.intro (OA.out.setsFar (b:=w2.heap.size) (stA U fv' sv' ov' kv').toList 0 (by have:=H13.out;omega)) (OD.out.setsFar (b:=w2.heap.size) (stA U fv' sv' ov' kv').toList 0 (by have:=H13.out;omega)))))))
         refine wp_store_mid 40 _ _ rfl w2.heap.size 0 (stA U fv' sv' ov' kv') (by rfl) (by rfl) (O7.out.there (by rfl)) (by kernel_rfl) (by simp [Value.oneCell',f1,f2,f3,f4]) ?_
         refine hK.out _ _ (by exact ⟨HK.out.2.2.2.2.1.cell,HK.out.2.2.2.2.2.cell⟩) (fun hHeld=>?_)
         clear hK K hHeld
         revert HK
         generalize World.setCells _ _ _ _=W7
         intro HK
         have hHeld:=And.intro HK.out.2.2.2.2.1.cell HK.out.2.2.2.2.2.cell
         try simp only [Act.put,y50a,y50b,y50c,y50d,y50e,y50f]
         refine wpAnyH_take (i:=10) (v:=?_) rfl (by kernel_rfl) (by kernel_rfl) (by kernel_rfl) (fun _ _ _ h=>h) (Or.inl ⟨by rfl,?_⟩) (by assumption) ?_
         rotate_left 1
         · (intro w hSw;(try dsimp only at hSw);go_simp;try with_reducible rfl)
         try simp only [Act.put,y50a,y50b,y50c,y50d,y50e,y50f]
         refine wpAnyH_done (by kernel_rfl) ?_ _
         clear hHeld
         replace HK:=y50h (And.intro HK.out.1 (And.intro HK.out.2.1 (And.intro HK.out.2.2.1 HK.out.2.2.2.1)))
         have hB3:=hB0
         go_upto_region 13 with fail
         refine za2 3 (by kernel_rfl) (by kernel_rfl) ?_
         simp only [List.take_succ_cons,List.take_zero,List.drop_succ_cons,List.drop_zero]
         refine wpStill_step (fun K hK=>?_)
         rw [if_pos (by rfl)]
         refine zch 40 _ rfl w2.heap.size 0 (by rfl) (stA U fv' sv' ov' kv').toList _ (HK.out.1.drew.range) Tryz.underlying40 (by rfl) (by kernel_rfl) (hK _ ?_)
         clear hK K
         still_step
         refine wpStill_step (fun K hK=>?_)
         go_simp
         refine ⟨_,zd5 (CE _).out,hK _ ?_⟩
         clear hK K
         refine wpStill_nil ?_
         go_wp2_with (first | (refine wpList_store_mid (by rfl) 40 _ _ (by rfl) (w.heap.size + 1 + 1) 0 (stA U fv' sv' ov' kv') (by rfl) (by rfl) (HK.out.2.1.drew.there (by rfl)) (by kernel_rfl) (by simp [Value.oneCell',f1,f2,f3,f4]) ?_;have HE:=y50h (And.intro (HK.out.2.1.drew.sets (stA U fv' sv' ov' kv').toList (by rfl)) (And.intro (zaa (B:=w.heap.size) (b:=w.heap.size + 1 + 1) (by omega) (stA U fv' sv' ov' kv').toList 0 HK.out.2.2.1.drew) ((HK.out.2.2.2.later (Below.refl _ _).drew).sets (b:=w.heap.size + 1 + 1) hB3.out (stA U fv' sv' ov' kv').toList)));revert HE;generalize World.setCells _ _ _ _=WW;intro HE) | fail)
         exact zab (by rfl) (by rfl) (by rfl) HE.out.1.range Tryz.underlying40 (by rfl) (by kernel_rfl) rfl ⟨fv',sv',ov',kv',rfl,HE.out.2.2.mono (by first | (have:=hB3.out;omega) | (have:=hB0.out;omega)),HE.out.2.1⟩
   · try simp only [y50a,y50b,y50c]
     go_simp
     have H13:=y50h (show w.heap.size + 1 + 1 < wA.heap.size from OT.out.lt)
     have HP:=And.intro (show Own (World.drew (World.alloc wA (.cells stZ.toArray 40))) _ _ _ from OA.out.alloc (.cells stZ.toArray 40)) (And.intro (show Own (World.drew (World.alloc wA (.cells stZ.toArray 40))) _ _ _ from OD.out.alloc (.cells stZ.toArray 40)) (And.intro (show Own (World.drew (World.alloc wA (.cells stZ.toArray 40))) _ _ _ from OT.out.alloc (.cells stZ.toArray 40)) (And.intro (show Own (World.drew (World.alloc wA (.cells stZ.toArray 40))) wA.heap.size stZ.toArray 40 from Own.new wA.drew stZ.toArray 40) (show Below w.heap.size w (World.drew (World.alloc wA (.cells stZ.toArray 40))) from BEL.out.alloc BEL.out.size (.cells stZ.toArray 40)))))
     clear OA OD OT BEL hHeld
     revert HP
     generalize World.drew (World.alloc wA _)=wB
     intro HP
     have OA:=y50h HP.1
     have OD:=y50h HP.2.1
     have OT:=y50h HP.2.2.1
     have O7:=y50h HP.2.2.2.1
     have BEL:=y50h HP.2.2.2.2
     clear HP
     refine hK.out _ _ (by exact ⟨OA.out.cell,OD.out.cell⟩) (fun hHeld=>?_)
     clear hK K
     try simp only [Act.put,y50a,y50b,y50c,y50d,y50e,y50f]
     refine wpAnyH_ready (rs:=[3]) (by kernel_rfl) (by simp) ?_
     refine AllReadyH.cons rfl (fun K hK=>?_) (AllReadyH.nil)
     · try simp only [y50a,y50b,y50c]
       (go_simp;go_at_call 12;refine (CP _ (HD.out.lf.later BEL.out (Nat.le_refl _))).out.mono ?_;rintro e w2 ⟨v2,rfl,hl2,hb⟩;have hB0:=y50h OT.out.lt;have HEA:=y50h O7.out.lt;have HL2:=y50h (show LPF w2 _ d.f v2 from hl2);have hB2:=y50h (show _≤w2.heap.size from hb.size);have BW2:=y50h (Below.refl w2.heap.size w2);replace OA:=y50h (OA.out.later hb);replace OD:=y50h (OD.out.later hb);replace OT:=y50h (OT.out.later hb);replace O7:=y50h (O7.out.later hb);replace BEL:=y50h (BEL.out.trans (hb.mono BEL.out.size));clear hl2 hb)
       try go_wp2_with fail
       refine hK.out _ _ (by exact ⟨OA.out.cell,OD.out.cell⟩) (fun hHeld=>?_)
       clear hK K
       try simp only [Act.put,y50a,y50b,y50c,y50d,y50e,y50f]
       refine wpAnyH_ready (rs:=[4]) (by kernel_rfl) (by simp) ?_
       refine AllReadyH.cons rfl (fun K hK=>?_) (AllReadyH.nil)
       · try simp only [y50a,y50b,y50c]
         (go_simp;go_at_call 77;refine (CC _ _ BEL.out (HL2.out.later BW2.out).lp).out.mono ?_;rintro e w3 ⟨fv',sv',ov',kv',rfl,hor,hb⟩;have HBF:=y50h (Nat.le_trans hB2.out BW2.out.size);have hst:=(zi5 hor (HL2.out.later BW2.out) HBF.out hb).lies HPV.out HW.out.ls HW.out.lo HW.out.lk (BEL.out.trans (hb.mono BEL.out.size));have f1:fv'.oneCell'=true:=zas hst.lf;have f2:sv'.oneCell'=true:=(by obtain ⟨_,_,_,_,e,_⟩:=hst.ls;rw [e];rfl);have f3:ov'.oneCell'=true:=(by obtain ⟨_,_,_,_,e,_⟩:=hst.lo;rw [e];rfl);have f4:kv'.oneCell'=true:=(by obtain ⟨_,_,e⟩:=hst.lk.val;rw [e];rfl);unfold Value.oneCell' at f1 f2 f3 f4;have HOR:=y50h hor;have HLT:=y50h O7.out.lt;replace BW2:=y50h (BW2.out.trans (hb.mono BW2.out.size));replace OA:=y50h (OA.out.later hb);replace OD:=y50h (OD.out.later hb);replace OT:=y50h (OT.out.later hb);replace O7:=y50h (O7.out.later hb);replace BEL:=y50h (BEL.out.trans (hb.mono BEL.out.size));clear hst hor hb)
         try go_wp2_with fail
         refine hK.out _ _ (by exact ⟨OA.out.cell,OD.out.cell⟩) (fun hHeld=>?_)
         clear hK K
         try simp only [Act.put,y50a,y50b,y50c,y50d,y50e,y50f]
         refine wpAnyH_take (i:=5) (v:=?_) rfl (by kernel_rfl) (by kernel_rfl) (by kernel_rfl) (fun _ _ _ h=>h) (Or.inl ⟨by rfl,?_⟩) (by assumption) ?_
         rotate_left 1
         · (intro w hSw;(try dsimp only at hSw);go_simp;try with_reducible rfl)
         try simp only [Act.put,y50a,y50b,y50c,y50d,y50e,y50f]
         refine wpAnyH_take (i:=6) (v:=?_) rfl (by kernel_rfl) (by kernel_rfl) (by kernel_rfl) (fun _ _ _ h=>h) (Or.inl ⟨by rfl,?_⟩) (by assumption) ?_
         rotate_left 1
         · (intro w hSw;(try dsimp only at hSw);go_simp;try with_reducible rfl)
         try simp only [Act.put,y50a,y50b,y50c,y50d,y50e,y50f]
         refine wpAnyH_take (i:=7) (v:=?_) rfl (by kernel_rfl) (by kernel_rfl) (by kernel_rfl) (fun _ _ _ h=>h) (Or.inl ⟨by rfl,?_⟩) (by assumption) ?_
         rotate_left 1
         · (intro w hSw;(try dsimp only at hSw);go_simp;try with_reducible rfl)
         try simp only [Act.put,y50a,y50b,y50c,y50d,y50e,y50f]
         refine wpAnyH_ready (rs:=[9]) (by kernel_rfl) (by simp) ?_
         refine AllReadyH.cons rfl (fun K hK=>?_) AllReadyH.nil
         try simp only [y50a,y50b,y50c]
         first | rw [if_pos (by rfl)] | skip
         have HK:=y50h (And.intro (O7.out.sets (stA U fv' sv' ov' kv').toList (by rfl)) (And.intro (OT.out.setsFar (b:=wA.heap.size) (stA U fv' sv' ov' kv').toList 0 (by have:=H13.out;omega)) (And.intro (zaa (B:=w.heap.size) (b:=wA.heap.size) (by have:=H13.out;omega) (stA U fv' sv' ov' kv').toList 0 BEL.out) (And.intro (zka (HOR.out.imp (fun h=>h.sets HLT.out (stA U fv' sv' ov' kv').toList) (fun h=>h.sets HLT.out (stA U fv' sv' ov' kv').toList)) ((HL2.out.later BW2.out).sets HEA.out (stA U fv' sv' ov' kv').toList) HBF.out) (And.intro (OA.out.setsFar (b:=wA.heap.size) (stA U fv' sv' ov' kv').toList 0 (by have:=H13.out;omega)) (OD.out.setsFar (b:=wA.heap.size) (stA U fv' sv' ov' kv').toList 0 (by have:=H13.out;omega)))))))
         refine wp_store_mid 40 _ _ rfl wA.heap.size 0 (stA U fv' sv' ov' kv') (by rfl) (by rfl) (O7.out.there (by rfl)) (by kernel_rfl) (by simp [Value.oneCell',f1,f2,f3,f4]) ?_
         refine hK.out _ _ (by exact ⟨HK.out.2.2.2.2.1.cell,HK.out.2.2.2.2.2.cell⟩) (fun hHeld=>?_)
         clear hK K hHeld
         revert HK
         generalize World.setCells _ _ _ _=W7
         intro HK
         have hHeld:=And.intro HK.out.2.2.2.2.1.cell HK.out.2.2.2.2.2.cell
         try simp only [Act.put,y50a,y50b,y50c,y50d,y50e,y50f]
         refine wpAnyH_take (i:=10) (v:=?_) rfl (by kernel_rfl) (by kernel_rfl) (by kernel_rfl) (fun _ _ _ h=>h) (Or.inl ⟨by rfl,?_⟩) (by assumption) ?_
         rotate_left 1
         · (intro w hSw;(try dsimp only at hSw);go_simp;try with_reducible rfl)
         try simp only [Act.put,y50a,y50b,y50c,y50d,y50e,y50f]
         refine wpAnyH_done (by kernel_rfl) ?_ _
         clear hHeld
         replace HK:=y50h (And.intro HK.out.1 (And.intro HK.out.2.1 (And.intro HK.out.2.2.1 HK.out.2.2.2.1)))
         have hB3:=hB0
         go_upto_region 13 with fail
         refine za2 3 (by kernel_rfl) (by kernel_rfl) ?_
         simp only [List.take_succ_cons,List.take_zero,List.drop_succ_cons,List.drop_zero]
         refine wpStill_step (fun K hK=>?_)
         rw [if_pos (by rfl)]
         refine zch 40 _ rfl wA.heap.size 0 (by rfl) (stA U fv' sv' ov' kv').toList _ (HK.out.1.drew.range) Tryz.underlying40 (by rfl) (by kernel_rfl) (hK _ ?_)
         clear hK K
         still_step
         refine wpStill_step (fun K hK=>?_)
         go_simp
         refine ⟨_,zd5 (CE _).out,hK _ ?_⟩
         clear hK K
         refine wpStill_nil ?_
         go_wp2_with (first | (refine wpList_store_mid (by rfl) 40 _ _ (by rfl) (w.heap.size + 1 + 1) 0 (stA U fv' sv' ov' kv') (by rfl) (by rfl) (HK.out.2.1.drew.there (by rfl)) (by kernel_rfl) (by simp [Value.oneCell',f1,f2,f3,f4]) ?_;have HE:=y50h (And.intro (HK.out.2.1.drew.sets (stA U fv' sv' ov' kv').toList (by rfl)) (And.intro (zaa (B:=w.heap.size) (b:=w.heap.size + 1 + 1) (by omega) (stA U fv' sv' ov' kv').toList 0 HK.out.2.2.1.drew) ((HK.out.2.2.2.later (Below.refl _ _).drew).sets (b:=w.heap.size + 1 + 1) hB3.out (stA U fv' sv' ov' kv').toList)));revert HE;generalize World.setCells _ _ _ _=WW;intro HE) | fail)
         exact zab (by rfl) (by rfl) (by rfl) HE.out.1.range Tryz.underlying40 (by rfl) (by kernel_rfl) rfl ⟨fv',sv',ov',kv',rfl,HE.out.2.2.mono (by first | (have:=hB3.out;omega) | (have:=hB0.out;omega)),HE.out.2.1⟩
end Go.Proofs.YtodfhabkdaiopaaGreat
