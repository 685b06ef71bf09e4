/- Joined: LocDo. -/
import Derived.Test.YthnllikalobmeaaGreatK37
import Derived.Test.YthnllikalobmeaaGreatK44
namespace Go.Proofs.YthnllikalobmeaaGreat
set_option linter.unusedVariables false
set_option linter.unusedSimpArgs false
set_option maxRecDepth 100000
set_option maxHeartbeats 8000000
open Go.RowKit
abbrev y45a:=@List.getElem_toArray
abbrev y45b:=@List.getElem_cons_zero
abbrev y45c:=@List.getElem_cons_succ
abbrev y45d:=@List.setIfInBounds_toArray
abbrev y45e:=@List.set_cons_zero
abbrev y45f:=@List.set_cons_succ
theorem y45h {p:Prop} (h:p):Hid p:=Lib.hid h
theorem zjg {w7:World} {Bf:Nat} {s U:St} {fv sv ov kv v2 fv' sv' ov' kv':Value} {f:Pr} {B:Nat} (h:StN w7 Bf s.f fv s.store sv s.out ov s.k.l kv U fv' sv' ov' kv' ∨ StN w7 Bf f v2 s.store sv s.out ov s.k.l kv U fv' sv' ov' kv') (hF:LPF w7 B f v2) (hB:B ≤ Bf):StN w7 B s.f fv s.store sv s.out ov s.k.l kv U fv' sv' ov' kv':=by
 rcases h with h | h
 · exact h.mono hB
 · obtain ⟨h1,h2,h3,h4⟩:=h.mono hB
   refine ⟨.inr ?_,h2,h3,h4⟩
   rcases h1 with ⟨e,rfl⟩ | h1
   · rw [e];exact hF
   · exact h1
theorem zte (s:St) (fv sv ov kv:Value) (d:De) (gv:Value) (w:World) (hS:StW w s fv sv ov kv) (hD:DeW w d gv) (hG:Good s) (hB:StB s) (hsz:d.f.size ≤ 60) :
   Calls Tryz.prog 18 #[stV s fv sv ov kv,deV d gv] w fun e w'=>∃ fv' sv' ov' kv',e = .returned (.tuple #[stV (doS s d) fv' sv' ov' kv',.int .i64 (doE s d)]) ∧ StN w' w.heap.size s.f fv s.store sv s.out ov s.k.l kv (doS s d) fv' sv' ov' kv' ∧ Below w.heap.size w w':=by
 have OA:=y45h (((Own.new w (stA s fv sv ov kv) 43).alloc (.cells (deL d gv).toArray 57)).alloc (.cells stZ.toArray 43))
 have OD:=y45h ((Own.newAt (w.alloc (.cells (stA s fv sv ov kv) 43)) (deL d gv).toArray 57 (b:=w.heap.size + 1) (by simp)).alloc (.cells stZ.toArray 43))
 have OT:=y45h (Own.newAt ((w.alloc (.cells (stA s fv sv ov kv) 43)).alloc (.cells (deL d gv).toArray 57)) stZ.toArray 43 (b:=w.heap.size + 1 + 1) (by simp))
 have BEL:=y45h ((((Below.refl w.heap.size w).alloc (Nat.le_refl _) (.cells (stA s fv sv ov kv) 43)).alloc (by simp) (.cells (deL d gv).toArray 57)).alloc (by simp;omega) (.cells stZ.toArray 43))
 have CK:=fun w'=>y45h (zkd d.what w')
 have HW:=y45h hS
 have HD:=y45h hD
 have lOD:=OD.out.cell
 have zOD:=OD.out.lt
 have hpk:=zk7 d.what
 clear hS hD
 rcases (show zbn d.what = 0 ∨ zbn d.what = 1 ∨ zbn d.what = 2 ∨ zbn d.what = 3 by omega) with h0 | h1 | h2 | h3
 · have EU:doS s d = creS s (itS d.id d.kd d.num d.x d.y):=by unfold doS;simp [h0]
   have EE:doE s d = creE s (itS d.id d.kd d.num d.x d.y):=by unfold doE;simp [h0]
   rw [h0] at CK
   have HPV:=y45h HW.out.lf
   have CE:=fun w'=>y45h (show Calls Tryz.prog 17 #[errI (doE s d)] w' (fun e w''=>e = .returned (.int .i64 (doE s d)) ∧ w' = w'') from by rw [EE];exact zed (zye s (itS d.id d.kd d.num d.x d.y)) w')
   have CC:=fun w' (hb:Below w.heap.size w w')=>y45h (show Calls Tryz.prog 31 #[stV s fv sv ov kv,.string d.id,.string d.kd,.int .i64 d.num,.complex .f64 d.x d.y] w' (fun e w''=>∃ fv' sv' ov' kv',e = .returned (.tuple #[stV (doS s d) fv' sv' ov' kv',errI (doE s d)]) ∧ StN w'' w'.heap.size s.f fv s.store sv s.out ov s.k.l kv (doS s d) fv' sv' ov' kv' ∧ Below w'.heap.size w' w'') from by rw [EU,EE];exact zei s fv sv ov kv d.id d.kd d.num d.x d.y w' (HW.out.later hb) hG hB HD.out.id HD.out.kd)
   clear EU EE hpk
   generalize doS s d = U at *
   generalize doE s d = E at *
   go_enter Tryz.func18,Tryz.ntmps18
   go_upto_region 5 with (first | (go_at_call 24;refine (CK _).out.mono ?_;rintro e w1 ⟨rfl,rfl⟩) | (refine wpList_load_mid (by rfl) 43 _ (by rfl) w.heap.size 0 (by rfl) (stA s fv sv ov kv).toList _ OA.out.range Tryz.underlying43 (by rfl) (by kernel_rfl) ?_) | (go_at_call 31;refine (CC _ BEL.out).out.mono ?_;rintro e w3 ⟨fv',sv',ov',kv',rfl,hx,hb⟩;have hst:=hx.lies HPV.out HW.out.ls HW.out.lo HW.out.lk (BEL.out.trans (hb.mono BEL.out.size));have f1:fv'.oneCell' = true:=zar hst.lf;have f2:sv'.oneCell' = true:=(by obtain ⟨_,_,_,_,e,_⟩:=hst.ls;rw [e];rfl);have f3:ov'.oneCell' = true:=(by obtain ⟨_,_,_,_,e,_⟩:=hst.lo;rw [e];rfl);have f4:kv'.oneCell' = true:=(by obtain ⟨_,_,e⟩:=hst.lk.val;rw [e];rfl);unfold Value.oneCell' at f1 f2 f3 f4;have hB3:=y45h (show w.heap.size + 1 + 1 < _ from OT.out.lt);have HX:=y45h hx;have BE3:=y45h (BEL.out.trans (hb.mono BEL.out.size));have OT3:=y45h (OT.out.later hb);have O7:=y45h (Own.new w3 stZ.toArray 43);clear hst hx hb) | (refine wpList_store_mid (by rfl) 43 _ _ (by rfl) w3.heap.size 0 (stA U fv' sv' ov' kv') (by rfl) (by rfl) (O7.out.there (by rfl)) (by kernel_rfl) (by simp [Value.oneCell',f1,f2,f3,f4]) ?_;have HK:=y45h (And.intro (O7.out.sets (stA U fv' sv' ov' kv').toList (by rfl)) (And.intro ((OT3.out.alloc (.cells stZ.toArray 43)).setsFar (b:=w3.heap.size) (stA U fv' sv' ov' kv').toList 0 (by have:=OT3.out.lt;omega)) (And.intro (zab (B:=w.heap.size) (b:=w3.heap.size) BE3.out.size (stA U fv' sv' ov' kv').toList 0 (BE3.out.alloc BE3.out.size (.cells stZ.toArray 43))) (HX.out.later (zab (B:=w3.heap.size) (b:=w3.heap.size) (Nat.le_refl _) (stA U fv' sv' ov' kv').toList 0 ((Below.refl _ _).alloc (Nat.le_refl _) (.cells stZ.toArray 43)))))));revert HK;generalize World.setCells _ _ _ _ = W7;intro HK) | fail)
   refine za2 3 (by kernel_rfl) (by kernel_rfl) ?_
   simp only [List.take_succ_cons,List.take_zero,List.drop_succ_cons,List.drop_zero]
   refine wpStill_step (fun K hK=>?_)
   rw [if_pos (by rfl)]
   refine zb8 43 _ rfl w3.heap.size 0 (by rfl) (stA U fv' sv' ov' kv').toList _ (HK.out.1.drew.range) Tryz.underlying43 (by rfl) (by kernel_rfl) (hK _ ?_)
   clear hK K
   still_step
   refine wpStill_step (fun K hK=>?_)
   go_simp
   refine ⟨_,zdi (CE _).out,hK _ ?_⟩
   clear hK K
   refine wpStill_nil ?_
   go_wp2_with (first | (refine wpList_store_mid (by rfl) 43 _ _ (by rfl) (w.heap.size + 1 + 1) 0 (stA U fv' sv' ov' kv') (by rfl) (by rfl) (HK.out.2.1.drew.there (by rfl)) (by kernel_rfl) (by simp [Value.oneCell',f1,f2,f3,f4]) ?_;have HE:=y45h (And.intro (HK.out.2.1.drew.sets (stA U fv' sv' ov' kv').toList (by rfl)) (And.intro (zab (B:=w.heap.size) (b:=w.heap.size + 1 + 1) (by omega) (stA U fv' sv' ov' kv').toList 0 HK.out.2.2.1.drew) ((HK.out.2.2.2.later (Below.refl _ _).drew).sets (b:=w.heap.size + 1 + 1) hB3.out (stA U fv' sv' ov' kv').toList)));revert HE;generalize World.setCells _ _ _ _ = WW;intro HE) | fail)
   exact zae (by rfl) (by rfl) (by rfl) HE.out.1.range Tryz.underlying43 (by rfl) (by kernel_rfl) rfl ⟨fv',sv',ov',kv',rfl,HE.out.2.2.mono (by first | (have:=hB3.out;omega) | (have:=hB0.out;omega)),HE.out.2.1⟩
 · have EU:doS s d = updS s (itS d.id d.kd d.num d.x d.y):=by unfold doS;simp [h1]
   have EE:doE s d = updE s (itS d.id d.kd d.num d.x d.y):=by unfold doE;simp [h1]
   rw [h1] at CK
   have HPV:=y45h HW.out.lf
   have CE:=fun w'=>y45h (show Calls Tryz.prog 17 #[errI (doE s d)] w' (fun e w''=>e = .returned (.int .i64 (doE s d)) ∧ w' = w'') from by rw [EE];exact zed (zy8 s (itS d.id d.kd d.num d.x d.y)) w')
   have CC:=fun w' (hb:Below w.heap.size w w')=>y45h (show Calls Tryz.prog 48 #[stV s fv sv ov kv,.string d.id,.string d.kd,.int .i64 d.num,.complex .f64 d.x d.y] w' (fun e w''=>∃ fv' sv' ov' kv',e = .returned (.tuple #[stV (doS s d) fv' sv' ov' kv',errI (doE s d)]) ∧ StN w'' w'.heap.size s.f fv s.store sv s.out ov s.k.l kv (doS s d) fv' sv' ov' kv' ∧ Below w'.heap.size w' w'') from by rw [EU,EE];exact zin s fv sv ov kv d.id d.kd d.num d.x d.y w' (HW.out.later hb) hG hB HD.out.id HD.out.kd)
   clear EU EE hpk
   generalize doS s d = U at *
   generalize doE s d = E at *
   go_enter Tryz.func18,Tryz.ntmps18
   go_upto_region 8 with (first | (go_at_call 24;refine (CK _).out.mono ?_;rintro e w1 ⟨rfl,rfl⟩) | (refine wpList_load_mid (by rfl) 43 _ (by rfl) w.heap.size 0 (by rfl) (stA s fv sv ov kv).toList _ OA.out.range Tryz.underlying43 (by rfl) (by kernel_rfl) ?_) | (go_at_call 48;refine (CC _ BEL.out).out.mono ?_;rintro e w3 ⟨fv',sv',ov',kv',rfl,hx,hb⟩;have hst:=hx.lies HPV.out HW.out.ls HW.out.lo HW.out.lk (BEL.out.trans (hb.mono BEL.out.size));have f1:fv'.oneCell' = true:=zar hst.lf;have f2:sv'.oneCell' = true:=(by obtain ⟨_,_,_,_,e,_⟩:=hst.ls;rw [e];rfl);have f3:ov'.oneCell' = true:=(by obtain ⟨_,_,_,_,e,_⟩:=hst.lo;rw [e];rfl);have f4:kv'.oneCell' = true:=(by obtain ⟨_,_,e⟩:=hst.lk.val;rw [e];rfl);unfold Value.oneCell' at f1 f2 f3 f4;have hB3:=y45h (show w.heap.size + 1 + 1 < _ from OT.out.lt);have HX:=y45h hx;have BE3:=y45h (BEL.out.trans (hb.mono BEL.out.size));have OT3:=y45h (OT.out.later hb);have O7:=y45h (Own.new w3 stZ.toArray 43);clear hst hx hb) | (refine wpList_store_mid (by rfl) 43 _ _ (by rfl) w3.heap.size 0 (stA U fv' sv' ov' kv') (by rfl) (by rfl) (O7.out.there (by rfl)) (by kernel_rfl) (by simp [Value.oneCell',f1,f2,f3,f4]) ?_;have HK:=y45h (And.intro (O7.out.sets (stA U fv' sv' ov' kv').toList (by rfl)) (And.intro ((OT3.out.alloc (.cells stZ.toArray 43)).setsFar (b:=w3.heap.size) (stA U fv' sv' ov' kv').toList 0 (by have:=OT3.out.lt;omega)) (And.intro (zab (B:=w.heap.size) (b:=w3.heap.size) BE3.out.size (stA U fv' sv' ov' kv').toList 0 (BE3.out.alloc BE3.out.size (.cells stZ.toArray 43))) (HX.out.later (zab (B:=w3.heap.size) (b:=w3.heap.size) (Nat.le_refl _) (stA U fv' sv' ov' kv').toList 0 ((Below.refl _ _).alloc (Nat.le_refl _) (.cells stZ.toArray 43)))))));revert HK;generalize World.setCells _ _ _ _ = W7;intro HK) | fail)
   refine za2 3 (by kernel_rfl) (by kernel_rfl) ?_
   simp only [List.take_succ_cons,List.take_zero,List.drop_succ_cons,List.drop_zero]
   refine wpStill_step (fun K hK=>?_)
   rw [if_pos (by rfl)]
   refine zb8 43 _ rfl w3.heap.size 0 (by rfl) (stA U fv' sv' ov' kv').toList _ (HK.out.1.drew.range) Tryz.underlying43 (by rfl) (by kernel_rfl) (hK _ ?_)
   clear hK K
   still_step
   refine wpStill_step (fun K hK=>?_)
   go_simp
   refine ⟨_,zdi (CE _).out,hK _ ?_⟩
   clear hK K
   refine wpStill_nil ?_
   go_wp2_with (first | (refine wpList_store_mid (by rfl) 43 _ _ (by rfl) (w.heap.size + 1 + 1) 0 (stA U fv' sv' ov' kv') (by rfl) (by rfl) (HK.out.2.1.drew.there (by rfl)) (by kernel_rfl) (by simp [Value.oneCell',f1,f2,f3,f4]) ?_;have HE:=y45h (And.intro (HK.out.2.1.drew.sets (stA U fv' sv' ov' kv').toList (by rfl)) (And.intro (zab (B:=w.heap.size) (b:=w.heap.size + 1 + 1) (by omega) (stA U fv' sv' ov' kv').toList 0 HK.out.2.2.1.drew) ((HK.out.2.2.2.later (Below.refl _ _).drew).sets (b:=w.heap.size + 1 + 1) hB3.out (stA U fv' sv' ov' kv').toList)));revert HE;generalize World.setCells _ _ _ _ = WW;intro HE) | fail)
   exact zae (by rfl) (by rfl) (by rfl) HE.out.1.range Tryz.underlying43 (by rfl) (by kernel_rfl) rfl ⟨fv',sv',ov',kv',rfl,HE.out.2.2.mono (by first | (have:=hB3.out;omega) | (have:=hB0.out;omega)),HE.out.2.1⟩
 · have EU:doS s d = delS s d.id:=by unfold doS;simp [h2]
   have EE:doE s d = delE s d.id:=by unfold doE;simp [h2]
   rw [h2] at CK
   have HPV:=y45h HW.out.lf
   have CE:=fun w'=>y45h (show Calls Tryz.prog 17 #[errI (doE s d)] w' (fun e w''=>e = .returned (.int .i64 (doE s d)) ∧ w' = w'') from by rw [EE];exact zed (zyf s d.id) w')
   have CC:=fun w' (hb:Below w.heap.size w w')=>y45h (show Calls Tryz.prog 49 #[stV s fv sv ov kv,.string d.id] w' (fun e w''=>∃ fv' sv' ov' kv',e = .returned (.tuple #[stV (doS s d) fv' sv' ov' kv',errI (doE s d)]) ∧ StN w'' w'.heap.size s.f fv s.store sv s.out ov s.k.l kv (doS s d) fv' sv' ov' kv' ∧ Below w'.heap.size w' w'') from by rw [EU,EE];exact zil s fv sv ov kv d.id w' (HW.out.later hb) hG hB HD.out.id)
   clear EU EE hpk
   generalize doS s d = U at *
   generalize doE s d = E at *
   go_enter Tryz.func18,Tryz.ntmps18
   go_upto_region 11 with (first | (go_at_call 24;refine (CK _).out.mono ?_;rintro e w1 ⟨rfl,rfl⟩) | (refine wpList_load_mid (by rfl) 43 _ (by rfl) w.heap.size 0 (by rfl) (stA s fv sv ov kv).toList _ OA.out.range Tryz.underlying43 (by rfl) (by kernel_rfl) ?_) | (go_at_call 49;refine (CC _ BEL.out).out.mono ?_;rintro e w3 ⟨fv',sv',ov',kv',rfl,hx,hb⟩;have hst:=hx.lies HPV.out HW.out.ls HW.out.lo HW.out.lk (BEL.out.trans (hb.mono BEL.out.size));have f1:fv'.oneCell' = true:=zar hst.lf;have f2:sv'.oneCell' = true:=(by obtain ⟨_,_,_,_,e,_⟩:=hst.ls;rw [e];rfl);have f3:ov'.oneCell' = true:=(by obtain ⟨_,_,_,_,e,_⟩:=hst.lo;rw [e];rfl);have f4:kv'.oneCell' = true:=(by obtain ⟨_,_,e⟩:=hst.lk.val;rw [e];rfl);unfold Value.oneCell' at f1 f2 f3 f4;have hB3:=y45h (show w.heap.size + 1 + 1 < _ from OT.out.lt);have HX:=y45h hx;have BE3:=y45h (BEL.out.trans (hb.mono BEL.out.size));have OT3:=y45h (OT.out.later hb);have O7:=y45h (Own.new w3 stZ.toArray 43);clear hst hx hb) | (refine wpList_store_mid (by rfl) 43 _ _ (by rfl) w3.heap.size 0 (stA U fv' sv' ov' kv') (by rfl) (by rfl) (O7.out.there (by rfl)) (by kernel_rfl) (by simp [Value.oneCell',f1,f2,f3,f4]) ?_;have HK:=y45h (And.intro (O7.out.sets (stA U fv' sv' ov' kv').toList (by rfl)) (And.intro ((OT3.out.alloc (.cells stZ.toArray 43)).setsFar (b:=w3.heap.size) (stA U fv' sv' ov' kv').toList 0 (by have:=OT3.out.lt;omega)) (And.intro (zab (B:=w.heap.size) (b:=w3.heap.size) BE3.out.size (stA U fv' sv' ov' kv').toList 0 (BE3.out.alloc BE3.out.size (.cells stZ.toArray 43))) (HX.out.later (zab (B:=w3.heap.size) (b:=w3.heap.size) (Nat.le_refl _) (stA U fv' sv' ov' kv').toList 0 ((Below.refl _ _).alloc (Nat.le_refl _) (.cells stZ.toArray 43)))))));revert HK;generalize World.setCells _ _ _ _ = W7;intro HK) | fail)
   refine za2 3 (by kernel_rfl) (by kernel_rfl) ?_
   simp only [List.take_succ_cons,List.take_zero,List.drop_succ_cons,List.drop_zero]
   refine wpStill_step (fun K hK=>?_)
   rw [if_pos (by rfl)]
   refine zb8 43 _ rfl w3.heap.size 0 (by rfl) (stA U fv' sv' ov' kv').toList _ (HK.out.1.drew.range) Tryz.underlying43 (by rfl) (by kernel_rfl) (hK _ ?_)
   clear hK K
   still_step
   refine wpStill_step (fun K hK=>?_)
   go_simp
   refine ⟨_,zdi (CE _).out,hK _ ?_⟩
   clear hK K
   refine wpStill_nil ?_
   go_wp2_with (first | (refine wpList_store_mid (by rfl) 43 _ _ (by rfl) (w.heap.size + 1 + 1) 0 (stA U fv' sv' ov' kv') (by rfl) (by rfl) (HK.out.2.1.drew.there (by rfl)) (by kernel_rfl) (by simp [Value.oneCell',f1,f2,f3,f4]) ?_;have HE:=y45h (And.intro (HK.out.2.1.drew.sets (stA U fv' sv' ov' kv').toList (by rfl)) (And.intro (zab (B:=w.heap.size) (b:=w.heap.size + 1 + 1) (by omega) (stA U fv' sv' ov' kv').toList 0 HK.out.2.2.1.drew) ((HK.out.2.2.2.later (Below.refl _ _).drew).sets (b:=w.heap.size + 1 + 1) hB3.out (stA U fv' sv' ov' kv').toList)));revert HE;generalize World.setCells _ _ _ _ = WW;intro HE) | fail)
   exact zae (by rfl) (by rfl) (by rfl) HE.out.1.range Tryz.underlying43 (by rfl) (by kernel_rfl) rfl ⟨fv',sv',ov',kv',rfl,HE.out.2.2.mono (by first | (have:=hB3.out;omega) | (have:=hB0.out;omega)),HE.out.2.1⟩
 · have EU:doS s d = filS s d.f:=by unfold doS;simp [h3]
   have EE:doE s d = filE s d.f:=by unfold doE;simp [h3]
   rw [h3] at CK
   have HPV:=y45h HW.out.lf
   have CE:=fun w'=>y45h (show Calls Tryz.prog 17 #[errI (doE s d)] w' (fun e w''=>e = .returned (.int .i64 (doE s d)) ∧ w' = w'') from by rw [EE];exact zed (zyk s d.f) w')
   have CP:=fun w' h=>y45h (zgd d.f gv w' h hsz)
   have CC:=fun v2 w' (hb:Below w.heap.size w w') (hl:LP w' d.f v2)=>y45h (show Calls Tryz.prog 50 #[stV s fv sv ov kv,prV d.f v2] w' (fun e w''=>∃ fv' sv' ov' kv',e = .returned (.tuple #[stV (doS s d) fv' sv' ov' kv',errI (doE s d)]) ∧ (StN w'' w'.heap.size s.f fv s.store sv s.out ov s.k.l kv (doS s d) fv' sv' ov' kv' ∨ StN w'' w'.heap.size d.f v2 s.store sv s.out ov s.k.l kv (doS s d) fv' sv' ov' kv') ∧ Below w'.heap.size w' w'') from by
     rw [EU,EE]
     refine (zim s fv sv ov kv d.f v2 w' (HW.out.later hb) hG hB hl hsz).mono ?_
     rintro e w'' (⟨fv',sv',ov',kv',he,hx,hb⟩ | ⟨fv',sv',ov',kv',he,hx,hb⟩)
     · exact ⟨fv',sv',ov',kv',he,.inl hx,hb⟩
     · exact ⟨fv',sv',ov',kv',he,.inr hx,hb⟩)
   clear EU EE hpk
   generalize doS s d = U at *
   generalize doE s d = E at *
   go_enter Tryz.func18,Tryz.ntmps18
   go_upto_region 12 with (first | (go_at_call 24;refine (CK _).out.mono ?_;rintro e w1 ⟨rfl,rfl⟩) | fail)
   have HP:=And.intro OA.out (And.intro OD.out (And.intro OT.out BEL.out))
   clear OA OD OT BEL lOD zOD
   revert HP
   generalize World.alloc (World.alloc (World.alloc w _) _) _ = wA
   intro HP
   have OA:=y45h HP.1.drew
   have OD:=y45h HP.2.1.drew
   have OT:=y45h HP.2.2.1.drew
   have BEL:=y45h HP.2.2.2.drew
   clear HP
   refine wp_region_held_drew (S:=(fun w'=>(∀ o,w'.cell? ⟨w.heap.size,o,none⟩ = (stA s fv sv ov kv)[o]?) ∧ ∀ o,w'.cell? ⟨w.heap.size + 1,o,none⟩ = (deL d gv).toArray[o]?)) (by kernel_rfl) (by exact ⟨OA.out.cell,OD.out.cell⟩) (fun hHeld=>?_)
   refine wpAnyH_take (i:=0) (v:=stV s fv sv ov kv) rfl (by kernel_rfl) (by kernel_rfl) (by kernel_rfl) (fun _ _ _ h=>h) (Or.inl ⟨by rfl,fun w5 h5=>zbv 43 _ rfl w.heap.size 0 (by rfl) (stA s fv sv ov kv).toList _ (fun j v hv=>by rw [Nat.zero_add,h5.1 j];simpa using hv) Tryz.underlying43 (by rfl) (by kernel_rfl)⟩) (by assumption) ?_
   try simp only [Act.put,y45a,y45b,y45c,y45d,y45e,y45f]
   refine wpAnyH_take (i:=1) (v:=?_) rfl (by kernel_rfl) (by kernel_rfl) (by kernel_rfl) (fun _ _ _ h=>h) (Or.inl ⟨by rfl,?_⟩) (by assumption) ?_
   rotate_left 1
   · (intro w hSw;(try dsimp only at hSw);go_simp;try with_reducible rfl)
   try simp only [Act.put,y45a,y45b,y45c,y45d,y45e,y45f]
   refine wpAnyH_take (i:=2) (v:=?_) rfl (by kernel_rfl) (by kernel_rfl) (by kernel_rfl) (fun _ _ _ h=>h) (Or.inl ⟨by rfl,?_⟩) (by assumption) ?_
   rotate_left 1
   · (intro w hSw;(try dsimp only at hSw);go_simp;try with_reducible rfl)
   try simp only [Act.put,y45a,y45b,y45c,y45d,y45e,y45f]
   refine wpAnyH_ready (rs:=[3,8]) (by kernel_rfl) (by simp) ?_
   refine AllReadyH.cons rfl (fun K hK=>?_) (AllReadyH.cons rfl (fun K hK=>?_) (AllReadyH.nil))
   · try simp only [y45a,y45b,y45c]
     (go_simp;go_at_call 14;refine (CP _ (HD.out.lf.later BEL.out (Nat.le_refl _))).out.mono ?_;rintro e w2 ⟨v2,rfl,hl2,hb⟩;have hB0:=y45h OT.out.lt;have HL2:=y45h (show LPF w2 _ d.f v2 from hl2);have hB2:=y45h (show _ ≤ w2.heap.size from hb.size);have BW2:=y45h (Below.refl w2.heap.size w2);replace OA:=y45h (OA.out.later hb);replace OD:=y45h (OD.out.later hb);replace OT:=y45h (OT.out.later hb);replace BEL:=y45h (BEL.out.trans (hb.mono BEL.out.size));clear hl2 hb)
     try go_wp2_with fail
     refine hK.out _ _ (by exact ⟨OA.out.cell,OD.out.cell⟩) (fun hHeld=>?_)
     clear hK K
     try simp only [Act.put,y45a,y45b,y45c,y45d,y45e,y45f]
     refine wpAnyH_ready (rs:=[4,8]) (by kernel_rfl) (by simp) ?_
     refine AllReadyH.cons rfl (fun K hK=>?_) (AllReadyH.cons rfl (fun K hK=>?_) (AllReadyH.nil))
     · try simp only [y45a,y45b,y45c]
       (go_simp;go_at_call 50;refine (CC _ _ BEL.out (HL2.out.later BW2.out).lp).out.mono ?_;rintro e w3 ⟨fv',sv',ov',kv',rfl,hor,hb⟩;have HBF:=y45h (Nat.le_trans hB2.out BW2.out.size);have hst:=(zii hor (HL2.out.later BW2.out) HBF.out hb).lies HPV.out HW.out.ls HW.out.lo HW.out.lk (BEL.out.trans (hb.mono BEL.out.size));have f1:fv'.oneCell' = true:=zar hst.lf;have f2:sv'.oneCell' = true:=(by obtain ⟨_,_,_,_,e,_⟩:=hst.ls;rw [e];rfl);have f3:ov'.oneCell' = true:=(by obtain ⟨_,_,_,_,e,_⟩:=hst.lo;rw [e];rfl);have f4:kv'.oneCell' = true:=(by obtain ⟨_,_,e⟩:=hst.lk.val;rw [e];rfl);unfold Value.oneCell' at f1 f2 f3 f4;have HOR:=y45h hor;replace BW2:=y45h (BW2.out.trans (hb.mono BW2.out.size));replace OA:=y45h (OA.out.later hb);replace OD:=y45h (OD.out.later hb);replace OT:=y45h (OT.out.later hb);replace BEL:=y45h (BEL.out.trans (hb.mono BEL.out.size));clear hst hor hb)
       try go_wp2_with fail
       refine hK.out _ _ (by exact ⟨OA.out.cell,OD.out.cell⟩) (fun hHeld=>?_)
       clear hK K
       try simp only [Act.put,y45a,y45b,y45c,y45d,y45e,y45f]
       refine wpAnyH_take (i:=5) (v:=?_) rfl (by kernel_rfl) (by kernel_rfl) (by kernel_rfl) (fun _ _ _ h=>h) (Or.inl ⟨by rfl,?_⟩) (by assumption) ?_
       rotate_left 1
       · (intro w hSw;(try dsimp only at hSw);go_simp;try with_reducible rfl)
       try simp only [Act.put,y45a,y45b,y45c,y45d,y45e,y45f]
       refine wpAnyH_take (i:=6) (v:=?_) rfl (by kernel_rfl) (by kernel_rfl) (by kernel_rfl) (fun _ _ _ h=>h) (Or.inl ⟨by rfl,?_⟩) (by assumption) ?_
       rotate_left 1
       · (intro w hSw;(try dsimp only at hSw);go_simp;try with_reducible rfl)
       try simp only [Act.put,y45a,y45b,y45c,y45d,y45e,y45f]
       refine wpAnyH_take (i:=7) (v:=?_) rfl (by kernel_rfl) (by kernel_rfl) (by kernel_rfl) (fun _ _ _ h=>h) (Or.inl ⟨by rfl,?_⟩) (by assumption) ?_
       rotate_left 1
       · (intro w hSw;(try dsimp only at hSw);go_simp;try with_reducible rfl)
       try simp only [Act.put,y45a,y45b,y45c,y45d,y45e,y45f]
       refine wpAnyH_ready (rs:=[8]) (by kernel_rfl) (by simp) ?_
       refine AllReadyH.cons rfl (fun K hK=>?_) (AllReadyH.nil)
       · try simp only [y45a,y45b,y45c]
         go_simp
         have H13:=y45h (show w.heap.size + 1 + 1 < w3.heap.size from OT.out.lt)
         have H2L:=y45h BW2.out.size
         have HP:=And.intro (OA.out.alloc (.cells stZ.toArray 43)) (And.intro (OD.out.alloc (.cells stZ.toArray 43)) (And.intro (OT.out.alloc (.cells stZ.toArray 43)) (And.intro (Own.new w3 stZ.toArray 43) (And.intro (BEL.out.alloc BEL.out.size (.cells stZ.toArray 43)) (And.intro (BW2.out.alloc BW2.out.size (.cells stZ.toArray 43)) ((Below.refl w3.heap.size w3).alloc (Nat.le_refl _) (.cells stZ.toArray 43)))))))
         clear OA OD OT BEL BW2 hHeld
         revert HP
         generalize World.alloc w3 _ = wB
         intro HP
         have OA:=y45h HP.1
         have OD:=y45h HP.2.1
         have OT:=y45h HP.2.2.1
         have O7:=y45h HP.2.2.2.1
         have BEL:=y45h HP.2.2.2.2.1
         have BW2:=y45h HP.2.2.2.2.2.1
         have BW3:=y45h HP.2.2.2.2.2.2
         clear HP
         refine hK.out _ _ (by exact ⟨OA.out.cell,OD.out.cell⟩) (fun hHeld=>?_)
         clear hK K
         try simp only [Act.put,y45a,y45b,y45c,y45d,y45e,y45f]
         refine wpAnyH_ready (rs:=[9]) (by kernel_rfl) (by simp) ?_
         refine AllReadyH.cons rfl (fun K hK=>?_) AllReadyH.nil
         try simp only [y45a,y45b,y45c]
         first | rw [if_pos (by rfl)] | skip
         have HK:=y45h (And.intro (O7.out.sets (stA U fv' sv' ov' kv').toList (by rfl)) (And.intro (OT.out.setsFar (b:=w3.heap.size) (stA U fv' sv' ov' kv').toList 0 (by have:=H13.out;omega)) (And.intro (zab (B:=w.heap.size) (b:=w3.heap.size) (by have:=H13.out;omega) (stA U fv' sv' ov' kv').toList 0 BEL.out) (And.intro (zjg (HOR.out.imp (fun h=>h.later (zab (B:=w3.heap.size) (b:=w3.heap.size) (Nat.le_refl _) (stA U fv' sv' ov' kv').toList 0 BW3.out)) (fun h=>h.later (zab (B:=w3.heap.size) (b:=w3.heap.size) (Nat.le_refl _) (stA U fv' sv' ov' kv').toList 0 BW3.out))) (HL2.out.later (zab (B:=w2.heap.size) (b:=w3.heap.size) H2L.out (stA U fv' sv' ov' kv').toList 0 BW2.out)) HBF.out) (And.intro (OA.out.setsFar (b:=w3.heap.size) (stA U fv' sv' ov' kv').toList 0 (by have:=H13.out;omega)) (OD.out.setsFar (b:=w3.heap.size) (stA U fv' sv' ov' kv').toList 0 (by have:=H13.out;omega)))))))
         refine wp_store_mid 43 _ _ rfl w3.heap.size 0 (stA U fv' sv' ov' kv') (by rfl) (by rfl) (O7.out.there (by rfl)) (by kernel_rfl) (by simp [Value.oneCell',f1,f2,f3,f4]) ?_
         refine hK.out _ _ (by exact ⟨HK.out.2.2.2.2.1.cell,HK.out.2.2.2.2.2.cell⟩) (fun hHeld=>?_)
         clear hK K hHeld
         revert HK
         generalize World.setCells _ _ _ _ = W7
         intro HK
         have hHeld:=And.intro HK.out.2.2.2.2.1.cell HK.out.2.2.2.2.2.cell
         try simp only [Act.put,y45a,y45b,y45c,y45d,y45e,y45f]
         refine wpAnyH_take (i:=10) (v:=?_) rfl (by kernel_rfl) (by kernel_rfl) (by kernel_rfl) (fun _ _ _ h=>h) (Or.inl ⟨by rfl,?_⟩) (by assumption) ?_
         rotate_left 1
         · (intro w hSw;(try dsimp only at hSw);go_simp;try with_reducible rfl)
         try simp only [Act.put,y45a,y45b,y45c,y45d,y45e,y45f]
         refine wpAnyH_done (by kernel_rfl) ?_ _
         clear hHeld
         replace HK:=y45h (And.intro HK.out.1 (And.intro HK.out.2.1 (And.intro HK.out.2.2.1 HK.out.2.2.2.1)))
         have hB3:=hB0
         go_upto_region 13 with fail
         refine za2 3 (by kernel_rfl) (by kernel_rfl) ?_
         simp only [List.take_succ_cons,List.take_zero,List.drop_succ_cons,List.drop_zero]
         refine wpStill_step (fun K hK=>?_)
         rw [if_pos (by rfl)]
         refine zb8 43 _ rfl w3.heap.size 0 (by rfl) (stA U fv' sv' ov' kv').toList _ (HK.out.1.drew.range) Tryz.underlying43 (by rfl) (by kernel_rfl) (hK _ ?_)
         clear hK K
         still_step
         refine wpStill_step (fun K hK=>?_)
         go_simp
         refine ⟨_,zdi (CE _).out,hK _ ?_⟩
         clear hK K
         refine wpStill_nil ?_
         go_wp2_with (first | (refine wpList_store_mid (by rfl) 43 _ _ (by rfl) (w.heap.size + 1 + 1) 0 (stA U fv' sv' ov' kv') (by rfl) (by rfl) (HK.out.2.1.drew.there (by rfl)) (by kernel_rfl) (by simp [Value.oneCell',f1,f2,f3,f4]) ?_;have HE:=y45h (And.intro (HK.out.2.1.drew.sets (stA U fv' sv' ov' kv').toList (by rfl)) (And.intro (zab (B:=w.heap.size) (b:=w.heap.size + 1 + 1) (by omega) (stA U fv' sv' ov' kv').toList 0 HK.out.2.2.1.drew) ((HK.out.2.2.2.later (Below.refl _ _).drew).sets (b:=w.heap.size + 1 + 1) hB3.out (stA U fv' sv' ov' kv').toList)));revert HE;generalize World.setCells _ _ _ _ = WW;intro HE) | fail)
         exact zae (by rfl) (by rfl) (by rfl) HE.out.1.range Tryz.underlying43 (by rfl) (by kernel_rfl) rfl ⟨fv',sv',ov',kv',rfl,HE.out.2.2.mono (by first | (have:=hB3.out;omega) | (have:=hB0.out;omega)),HE.out.2.1⟩
     · try simp only [y45a,y45b,y45c]
       go_simp
       have H13:=y45h (show w.heap.size + 1 + 1 < w2.heap.size from OT.out.lt)
       have H2L:=y45h BW2.out.size
       have HP:=And.intro (OA.out.alloc (.cells stZ.toArray 43)) (And.intro (OD.out.alloc (.cells stZ.toArray 43)) (And.intro (OT.out.alloc (.cells stZ.toArray 43)) (And.intro (Own.new w2 stZ.toArray 43) (And.intro (BEL.out.alloc BEL.out.size (.cells stZ.toArray 43)) (BW2.out.alloc BW2.out.size (.cells stZ.toArray 43))))))
       clear OA OD OT BEL BW2 hHeld
       revert HP
       generalize World.alloc w2 _ = wB
       intro HP
       have OA:=y45h HP.1
       have OD:=y45h HP.2.1
       have OT:=y45h HP.2.2.1
       have O7:=y45h HP.2.2.2.1
       have BEL:=y45h HP.2.2.2.2.1
       have BW2:=y45h HP.2.2.2.2.2
       clear HP
       refine hK.out _ _ (by exact ⟨OA.out.cell,OD.out.cell⟩) (fun hHeld=>?_)
       clear hK K
       try simp only [Act.put,y45a,y45b,y45c,y45d,y45e,y45f]
       refine wpAnyH_ready (rs:=[4]) (by kernel_rfl) (by simp) ?_
       refine AllReadyH.cons rfl (fun K hK=>?_) (AllReadyH.nil)
       · try simp only [y45a,y45b,y45c]
         (go_simp;go_at_call 50;refine (CC _ _ BEL.out (HL2.out.later BW2.out).lp).out.mono ?_;rintro e w3 ⟨fv',sv',ov',kv',rfl,hor,hb⟩;have HBF:=y45h (Nat.le_trans hB2.out BW2.out.size);have hst:=(zii hor (HL2.out.later BW2.out) HBF.out hb).lies HPV.out HW.out.ls HW.out.lo HW.out.lk (BEL.out.trans (hb.mono BEL.out.size));have f1:fv'.oneCell' = true:=zar hst.lf;have f2:sv'.oneCell' = true:=(by obtain ⟨_,_,_,_,e,_⟩:=hst.ls;rw [e];rfl);have f3:ov'.oneCell' = true:=(by obtain ⟨_,_,_,_,e,_⟩:=hst.lo;rw [e];rfl);have f4:kv'.oneCell' = true:=(by obtain ⟨_,_,e⟩:=hst.lk.val;rw [e];rfl);unfold Value.oneCell' at f1 f2 f3 f4;have HOR:=y45h hor;have HLT:=y45h O7.out.lt;replace BW2:=y45h (BW2.out.trans (hb.mono BW2.out.size));replace OA:=y45h (OA.out.later hb);replace OD:=y45h (OD.out.later hb);replace OT:=y45h (OT.out.later hb);replace O7:=y45h (O7.out.later hb);replace BEL:=y45h (BEL.out.trans (hb.mono BEL.out.size));clear hst hor hb)
         try go_wp2_with fail
         refine hK.out _ _ (by exact ⟨OA.out.cell,OD.out.cell⟩) (fun hHeld=>?_)
         clear hK K
         try simp only [Act.put,y45a,y45b,y45c,y45d,y45e,y45f]
         refine wpAnyH_take (i:=5) (v:=?_) rfl (by kernel_rfl) (by kernel_rfl) (by kernel_rfl) (fun _ _ _ h=>h) (Or.inl ⟨by rfl,?_⟩) (by assumption) ?_
         rotate_left 1
         · (intro w hSw;(try dsimp only at hSw);go_simp;try with_reducible rfl)
         try simp only [Act.put,y45a,y45b,y45c,y45d,y45e,y45f]
         refine wpAnyH_take (i:=6) (v:=?_) rfl (by kernel_rfl) (by kernel_rfl) (by kernel_rfl) (fun _ _ _ h=>h) (Or.inl ⟨by rfl,?_⟩) (by assumption) ?_
         rotate_left 1
         · (intro w hSw;(try dsimp only at hSw);go_simp;try with_reducible rfl)
         try simp only [Act.put,y45a,y45b,y45c,y45d,y45e,y45f]
         refine wpAnyH_take (i:=7) (v:=?_) rfl (by kernel_rfl) (by kernel_rfl) (by kernel_rfl) (fun _ _ _ h=>h) (Or.inl ⟨by rfl,?_⟩) (by assumption) ?_
         rotate_left 1
         · (intro w hSw;(try dsimp only at hSw);go_simp;try with_reducible rfl)
         try simp only [Act.put,y45a,y45b,y45c,y45d,y45e,y45f]
         refine wpAnyH_ready (rs:=[9]) (by kernel_rfl) (by simp) ?_
         refine AllReadyH.cons rfl (fun K hK=>?_) AllReadyH.nil
         try simp only [y45a,y45b,y45c]
         first | rw [if_pos (by rfl)] | skip
         have HK:=y45h (And.intro (O7.out.sets (stA U fv' sv' ov' kv').toList (by rfl)) (And.intro (OT.out.setsFar (b:=w2.heap.size) (stA U fv' sv' ov' kv').toList 0 (by have:=H13.out;omega)) (And.intro (zab (B:=w.heap.size) (b:=w2.heap.size) (by have:=H13.out;omega) (stA U fv' sv' ov' kv').toList 0 BEL.out) (And.intro (zjg (HOR.out.imp (fun h=>h.sets HLT.out (stA U fv' sv' ov' kv').toList) (fun h=>h.sets HLT.out (stA U fv' sv' ov' kv').toList)) (HL2.out.later (zab (B:=w2.heap.size) (b:=w2.heap.size) H2L.out (stA U fv' sv' ov' kv').toList 0 BW2.out)) HBF.out) (And.intro (OA.out.setsFar (b:=w2.heap.size) (stA U fv' sv' ov' kv').toList 0 (by have:=H13.out;omega)) (OD.out.setsFar (b:=w2.heap.size) (stA U fv' sv' ov' kv').toList 0 (by have:=H13.out;omega)))))))
         refine wp_store_mid 43 _ _ rfl w2.heap.size 0 (stA U fv' sv' ov' kv') (by rfl) (by rfl) (O7.out.there (by rfl)) (by kernel_rfl) (by simp [Value.oneCell',f1,f2,f3,f4]) ?_
         refine hK.out _ _ (by exact ⟨HK.out.2.2.2.2.1.cell,HK.out.2.2.2.2.2.cell⟩) (fun hHeld=>?_)
         clear hK K hHeld
         revert HK
         generalize World.setCells _ _ _ _ = W7
         intro HK
         have hHeld:=And.intro HK.out.2.2.2.2.1.cell HK.out.2.2.2.2.2.cell
         try simp only [Act.put,y45a,y45b,y45c,y45d,y45e,y45f]
         refine wpAnyH_take (i:=10) (v:=?_) rfl (by kernel_rfl) (by kernel_rfl) (by kernel_rfl) (fun _ _ _ h=>h) (Or.inl ⟨by rfl,?_⟩) (by assumption) ?_
         rotate_left 1
         · (intro w hSw;(try dsimp only at hSw);go_simp;try with_reducible rfl)
         try simp only [Act.put,y45a,y45b,y45c,y45d,y45e,y45f]
         refine wpAnyH_done (by kernel_rfl) ?_ _
         clear hHeld
         replace HK:=y45h (And.intro HK.out.1 (And.intro HK.out.2.1 (And.intro HK.out.2.2.1 HK.out.2.2.2.1)))
         have hB3:=hB0
         go_upto_region 13 with fail
         refine za2 3 (by kernel_rfl) (by kernel_rfl) ?_
         simp only [List.take_succ_cons,List.take_zero,List.drop_succ_cons,List.drop_zero]
         refine wpStill_step (fun K hK=>?_)
         rw [if_pos (by rfl)]
         refine zb8 43 _ rfl w2.heap.size 0 (by rfl) (stA U fv' sv' ov' kv').toList _ (HK.out.1.drew.range) Tryz.underlying43 (by rfl) (by kernel_rfl) (hK _ ?_)
         clear hK K
         still_step
         refine wpStill_step (fun K hK=>?_)
         go_simp
         refine ⟨_,zdi (CE _).out,hK _ ?_⟩
         clear hK K
         refine wpStill_nil ?_
         go_wp2_with (first | (refine wpList_store_mid (by rfl) 43 _ _ (by rfl) (w.heap.size + 1 + 1) 0 (stA U fv' sv' ov' kv') (by rfl) (by rfl) (HK.out.2.1.drew.there (by rfl)) (by kernel_rfl) (by simp [Value.oneCell',f1,f2,f3,f4]) ?_;have HE:=y45h (And.intro (HK.out.2.1.drew.sets (stA U fv' sv' ov' kv').toList (by rfl)) (And.intro (zab (B:=w.heap.size) (b:=w.heap.size + 1 + 1) (by omega) (stA U fv' sv' ov' kv').toList 0 HK.out.2.2.1.drew) ((HK.out.2.2.2.later (Below.refl _ _).drew).sets (b:=w.heap.size + 1 + 1) hB3.out (stA U fv' sv' ov' kv').toList)));revert HE;generalize World.setCells _ _ _ _ = WW;intro HE) | fail)
         exact zae (by rfl) (by rfl) (by rfl) HE.out.1.range Tryz.underlying43 (by rfl) (by kernel_rfl) rfl ⟨fv',sv',ov',kv',rfl,HE.out.2.2.mono (by first | (have:=hB3.out;omega) | (have:=hB0.out;omega)),HE.out.2.1⟩
   · try simp only [y45a,y45b,y45c]
     go_simp
     have H13:=y45h (show w.heap.size + 1 + 1 < wA.heap.size from OT.out.lt)
     have HP:=And.intro (show Own (World.drew (World.alloc wA (.cells stZ.toArray 43))) _ _ _ from OA.out.alloc (.cells stZ.toArray 43)) (And.intro (show Own (World.drew (World.alloc wA (.cells stZ.toArray 43))) _ _ _ from OD.out.alloc (.cells stZ.toArray 43)) (And.intro (show Own (World.drew (World.alloc wA (.cells stZ.toArray 43))) _ _ _ from OT.out.alloc (.cells stZ.toArray 43)) (And.intro (show Own (World.drew (World.alloc wA (.cells stZ.toArray 43))) wA.heap.size stZ.toArray 43 from Own.new wA.drew stZ.toArray 43) (show Below w.heap.size w (World.drew (World.alloc wA (.cells stZ.toArray 43))) from BEL.out.alloc BEL.out.size (.cells stZ.toArray 43)))))
     clear OA OD OT BEL hHeld
     revert HP
     generalize World.drew (World.alloc wA _) = wB
     intro HP
     have OA:=y45h HP.1
     have OD:=y45h HP.2.1
     have OT:=y45h HP.2.2.1
     have O7:=y45h HP.2.2.2.1
     have BEL:=y45h HP.2.2.2.2
     clear HP
     refine hK.out _ _ (by exact ⟨OA.out.cell,OD.out.cell⟩) (fun hHeld=>?_)
     clear hK K
     try simp only [Act.put,y45a,y45b,y45c,y45d,y45e,y45f]
     refine wpAnyH_ready (rs:=[3]) (by kernel_rfl) (by simp) ?_
     refine AllReadyH.cons rfl (fun K hK=>?_) (AllReadyH.nil)
     · try simp only [y45a,y45b,y45c]
       (go_simp;go_at_call 14;refine (CP _ (HD.out.lf.later BEL.out (Nat.le_refl _))).out.mono ?_;rintro e w2 ⟨v2,rfl,hl2,hb⟩;have hB0:=y45h OT.out.lt;have HEA:=y45h O7.out.lt;have HL2:=y45h (show LPF w2 _ d.f v2 from hl2);have hB2:=y45h (show _ ≤ w2.heap.size from hb.size);have BW2:=y45h (Below.refl w2.heap.size w2);replace OA:=y45h (OA.out.later hb);replace OD:=y45h (OD.out.later hb);replace OT:=y45h (OT.out.later hb);replace O7:=y45h (O7.out.later hb);replace BEL:=y45h (BEL.out.trans (hb.mono BEL.out.size));clear hl2 hb)
       try go_wp2_with fail
       refine hK.out _ _ (by exact ⟨OA.out.cell,OD.out.cell⟩) (fun hHeld=>?_)
       clear hK K
       try simp only [Act.put,y45a,y45b,y45c,y45d,y45e,y45f]
       refine wpAnyH_ready (rs:=[4]) (by kernel_rfl) (by simp) ?_
       refine AllReadyH.cons rfl (fun K hK=>?_) (AllReadyH.nil)
       · try simp only [y45a,y45b,y45c]
         (go_simp;go_at_call 50;refine (CC _ _ BEL.out (HL2.out.later BW2.out).lp).out.mono ?_;rintro e w3 ⟨fv',sv',ov',kv',rfl,hor,hb⟩;have HBF:=y45h (Nat.le_trans hB2.out BW2.out.size);have hst:=(zii hor (HL2.out.later BW2.out) HBF.out hb).lies HPV.out HW.out.ls HW.out.lo HW.out.lk (BEL.out.trans (hb.mono BEL.out.size));have f1:fv'.oneCell' = true:=zar hst.lf;have f2:sv'.oneCell' = true:=(by obtain ⟨_,_,_,_,e,_⟩:=hst.ls;rw [e];rfl);have f3:ov'.oneCell' = true:=(by obtain ⟨_,_,_,_,e,_⟩:=hst.lo;rw [e];rfl);have f4:kv'.oneCell' = true:=(by obtain ⟨_,_,e⟩:=hst.lk.val;rw [e];rfl);unfold Value.oneCell' at f1 f2 f3 f4;have HOR:=y45h hor;have HLT:=y45h O7.out.lt;replace BW2:=y45h (BW2.out.trans (hb.mono BW2.out.size));replace OA:=y45h (OA.out.later hb);replace OD:=y45h (OD.out.later hb);replace OT:=y45h (OT.out.later hb);replace O7:=y45h (O7.out.later hb);replace BEL:=y45h (BEL.out.trans (hb.mono BEL.out.size));clear hst hor hb)
         try go_wp2_with fail
         refine hK.out _ _ (by exact ⟨OA.out.cell,OD.out.cell⟩) (fun hHeld=>?_)
         clear hK K
         try simp only [Act.put,y45a,y45b,y45c,y45d,y45e,y45f]
         refine wpAnyH_take (i:=5) (v:=?_) rfl (by kernel_rfl) (by kernel_rfl) (by kernel_rfl) (fun _ _ _ h=>h) (Or.inl ⟨by rfl,?_⟩) (by assumption) ?_
         rotate_left 1
         · (intro w hSw;(try dsimp only at hSw);go_simp;try with_reducible rfl)
         try simp only [Act.put,y45a,y45b,y45c,y45d,y45e,y45f]
         refine wpAnyH_take (i:=6) (v:=?_) rfl (by kernel_rfl) (by kernel_rfl) (by kernel_rfl) (fun _ _ _ h=>h) (Or.inl ⟨by rfl,?_⟩) (by assumption) ?_
         rotate_left 1
         · (intro w hSw;(try dsimp only at hSw);go_simp;try with_reducible rfl)
         try simp only [Act.put,y45a,y45b,y45c,y45d,y45e,y45f]
         refine wpAnyH_take (i:=7) (v:=?_) rfl (by kernel_rfl) (by kernel_rfl) (by kernel_rfl) (fun _ _ _ h=>h) (Or.inl ⟨by rfl,?_⟩) (by assumption) ?_
         rotate_left 1
         · (intro w hSw;(try dsimp only at hSw);go_simp;try with_reducible rfl)
         try simp only [Act.put,y45a,y45b,y45c,y45d,y45e,y45f]
         refine wpAnyH_ready (rs:=[9]) (by kernel_rfl) (by simp) ?_
         refine AllReadyH.cons rfl (fun K hK=>?_) AllReadyH.nil
         try simp only [y45a,y45b,y45c]
         first | rw [if_pos (by rfl)] | skip
         have HK:=y45h (And.intro (O7.out.sets (stA U fv' sv' ov' kv').toList (by rfl)) (And.intro (OT.out.setsFar (b:=wA.heap.size) (stA U fv' sv' ov' kv').toList 0 (by have:=H13.out;omega)) (And.intro (zab (B:=w.heap.size) (b:=wA.heap.size) (by have:=H13.out;omega) (stA U fv' sv' ov' kv').toList 0 BEL.out) (And.intro (zjg (HOR.out.imp (fun h=>h.sets HLT.out (stA U fv' sv' ov' kv').toList) (fun h=>h.sets HLT.out (stA U fv' sv' ov' kv').toList)) ((HL2.out.later BW2.out).sets HEA.out (stA U fv' sv' ov' kv').toList) HBF.out) (And.intro (OA.out.setsFar (b:=wA.heap.size) (stA U fv' sv' ov' kv').toList 0 (by have:=H13.out;omega)) (OD.out.setsFar (b:=wA.heap.size) (stA U fv' sv' ov' kv').toList 0 (by have:=H13.out;omega)))))))
         refine wp_store_mid 43 _ _ rfl wA.heap.size 0 (stA U fv' sv' ov' kv') (by rfl) (by rfl) (O7.out.there (by rfl)) (by kernel_rfl) (by simp [Value.oneCell',f1,f2,f3,f4]) ?_
         refine hK.out _ _ (by exact ⟨HK.out.2.2.2.2.1.cell,HK.out.2.2.2.2.2.cell⟩) (fun hHeld=>?_)
         clear hK K hHeld
         revert HK
         generalize World.setCells _ _ _ _ = W7
         intro HK
         have hHeld:=And.intro HK.out.2.2.2.2.1.cell HK.out.2.2.2.2.2.cell
         try simp only [Act.put,y45a,y45b,y45c,y45d,y45e,y45f]
         refine wpAnyH_take (i:=10) (v:=?_) rfl (by kernel_rfl) (by kernel_rfl) (by kernel_rfl) (fun _ _ _ h=>h) (Or.inl ⟨by rfl,?_⟩) (by assumption) ?_
         rotate_left 1
         · (intro w hSw;(try dsimp only at hSw);go_simp;try with_reducible rfl)
         try simp only [Act.put,y45a,y45b,y45c,y45d,y45e,y45f]
         refine wpAnyH_done (by kernel_rfl) ?_ _
         clear hHeld
         replace HK:=y45h (And.intro HK.out.1 (And.intro HK.out.2.1 (And.intro HK.out.2.2.1 HK.out.2.2.2.1)))
         have hB3:=hB0
         go_upto_region 13 with fail
         refine za2 3 (by kernel_rfl) (by kernel_rfl) ?_
         simp only [List.take_succ_cons,List.take_zero,List.drop_succ_cons,List.drop_zero]
         refine wpStill_step (fun K hK=>?_)
         rw [if_pos (by rfl)]
         refine zb8 43 _ rfl wA.heap.size 0 (by rfl) (stA U fv' sv' ov' kv').toList _ (HK.out.1.drew.range) Tryz.underlying43 (by rfl) (by kernel_rfl) (hK _ ?_)
         clear hK K
         still_step
         refine wpStill_step (fun K hK=>?_)
         go_simp
         refine ⟨_,zdi (CE _).out,hK _ ?_⟩
         clear hK K
         refine wpStill_nil ?_
         go_wp2_with (first | (refine wpList_store_mid (by rfl) 43 _ _ (by rfl) (w.heap.size + 1 + 1) 0 (stA U fv' sv' ov' kv') (by rfl) (by rfl) (HK.out.2.1.drew.there (by rfl)) (by kernel_rfl) (by simp [Value.oneCell',f1,f2,f3,f4]) ?_;have HE:=y45h (And.intro (HK.out.2.1.drew.sets (stA U fv' sv' ov' kv').toList (by rfl)) (And.intro (zab (B:=w.heap.size) (b:=w.heap.size + 1 + 1) (by omega) (stA U fv' sv' ov' kv').toList 0 HK.out.2.2.1.drew) ((HK.out.2.2.2.later (Below.refl _ _).drew).sets (b:=w.heap.size + 1 + 1) hB3.out (stA U fv' sv' ov' kv').toList)));revert HE;generalize World.setCells _ _ _ _ = WW;intro HE) | fail)
         exact zae (by rfl) (by rfl) (by rfl) HE.out.1.range Tryz.underlying43 (by rfl) (by kernel_rfl) rfl ⟨fv',sv',ov',kv',rfl,HE.out.2.2.mono (by first | (have:=hB3.out;omega) | (have:=hB0.out;omega)),HE.out.2.1⟩
end Go.Proofs.YthnllikalobmeaaGreat
