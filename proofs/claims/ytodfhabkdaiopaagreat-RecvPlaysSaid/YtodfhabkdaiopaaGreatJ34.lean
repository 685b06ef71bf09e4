/- Joined: RefSt9. -/
import Derived.Test.YtodfhabkdaiopaaGreatJ33
namespace Go.Proofs.YtodfhabkdaiopaaGreat
set_option linter.unusedVariables false
set_option linter.unusedSimpArgs false
set_option maxRecDepth 100000
set_option maxHeartbeats 8000000
open Go.RowKit
theorem y34h {p:Prop} (h:p):Go.RowKit.Hid p:=Lib.hid h
def creE (s:St) (x:Itm):Int:=if mayT x=true then (if (zae s x.id).2=true∧(zae s x.id).1.d=false then 3 else (if (zae s x.id).2=false∧s.store.length + s.out.length=40 then 4 else (if zbi s=true then 5 else 0))) else 1
def creS (s:St) (x:Itm):St:=if creE s x=0 then zbb s x else s
theorem zzy {s:St} {x:Itm} (h:mayT x=false):creE s x=1∧creS s x=s:=by
 have e:creE s x=1:=by unfold creE;rw [if_neg (by simp [h])]
 exact ⟨e,by unfold creS;rw [e,if_neg (by decide)]⟩
theorem zzz {s:St} {x:Itm} (h:mayT x=true) (h2:(zae s x.id).2=true∧(zae s x.id).1.d=false):creE s x=3∧creS s x=s:=by
 have e:creE s x=3:=by unfold creE;rw [if_pos h,if_pos h2]
 exact ⟨e,by unfold creS;rw [e,if_neg (by decide)]⟩
theorem zz0 {s:St} {x:Itm} (h:mayT x=true) (h2:¬((zae s x.id).2=true∧(zae s x.id).1.d=false)) (h3:(zae s x.id).2=false∧s.store.length + s.out.length=40):creE s x=4∧creS s x=s:=by
 have e:creE s x=4:=by unfold creE;rw [if_pos h,if_neg h2,if_pos h3]
 exact ⟨e,by unfold creS;rw [e,if_neg (by decide)]⟩
theorem zz1 {s:St} {x:Itm} (h:mayT x=true) (h2:¬((zae s x.id).2=true∧(zae s x.id).1.d=false)) (h3:¬((zae s x.id).2=false∧s.store.length + s.out.length=40)) (h4:zbi s=true):creE s x=5∧creS s x=s:=by
 have e:creE s x=5:=by unfold creE;rw [if_pos h,if_neg h2,if_neg h3,if_pos h4]
 exact ⟨e,by unfold creS;rw [e,if_neg (by decide)]⟩
theorem zz2 {s:St} {x:Itm} (h:mayT x=true) (h2:¬((zae s x.id).2=true∧(zae s x.id).1.d=false)) (h3:¬((zae s x.id).2=false∧s.store.length + s.out.length=40)) (h4:zbi s=false):creE s x=0∧creS s x=zbb s x:=by
 have e:creE s x=0:=by unfold creE;rw [if_pos h,if_neg h2,if_neg h3,if_neg (by simp [h4])]
 exact ⟨e,by unfold creS;rw [e,if_pos rfl]⟩
theorem zk8 (s:St) (fv sv ov kv:Value) (id kd:ByteArray) (num:Int) (px py:Nat) (w:World) (hS:StW w s fv sv ov kv) (hid:id.size≤maxLen) (hkd:kd.size≤maxLen) (hf:s.f.size≤1000) (h1:s.store.length≤1000) (h2:s.out.length≤1000)
   (hk1:(zaf (zal s.k id s.r (s.count + 1)).l).length≤10000) (hk2:s.k.l.length≤10000) (hk3:(zaf s.k.l).length≤10000) (hc:0≤s.count∧s.count≤1000) (ht:0≤s.clock∧s.clock≤1000000) :
   Calls Tryz.prog 78 #[stV s fv sv ov kv,.string id,.string kd,.int .i64 num,.complex .f64 px py] w fun e w' =>
     ∃ sv' ov' kv',e=.returned (.tuple #[stV (creS s (itS id kd num px py)) fv sv' ov' kv',.int .i64 (creE s (itS id kd num px py))])∧StW w' (creS s (itS id kd num px py)) fv sv' ov' kv'∧StX w' w.heap.size s (creS s (itS id kd num px py)) sv ov kv sv' ov' kv'∧Below w.heap.size w w':=by
 obtain ⟨o1,c1,rfl⟩:∃ o c,sv=.slice o s.store.length c:=by obtain ⟨oa,cap,_,_,e,_⟩:=hS.ls;exact ⟨oa,cap,e⟩
 obtain ⟨o2,c2,rfl⟩:∃ o c,ov=.slice o s.out.length c:=by obtain ⟨oa,cap,_,_,e,_⟩:=hS.lo;exact ⟨oa,cap,e⟩
 have OA:=y34h ((Own.new w (stA s fv (.slice o1 s.store.length c1) (.slice o2 s.out.length c2) kv) 40).alloc (.cells stZ.toArray 40))
 have OT:=y34h (Own.newAt (w.alloc (.cells (stA s fv (.slice o1 s.store.length c1) (.slice o2 s.out.length c2) kv) 40)) stZ.toArray 40 (b:=w.heap.size + 1) (by simp))
 have BEL:=y34h (((Below.refl w.heap.size w).alloc (Nat.le_refl _) (.cells (stA s fv (.slice o1 s.store.length c1) (.slice o2 s.out.length c2) kv) 40)).alloc (by simp) (.cells stZ.toArray 40))
 have HW:=y34h hS
 have hfv:fv.oneCell'=true:=zas hS.lf
 have hkv:kv.oneCell'=true:=by obtain ⟨_,_,e⟩:=hS.lk.val;rw [e];rfl
 unfold Value.oneCell' at hfv hkv
 clear hS
 have CS:=fun w'=>y34h (zgk id kd num px py w' hid hkd)
 have CD:=fun w' (hb:Below w.heap.size w w')=>y34h (zde s fv (.slice o1 s.store.length c1) (.slice o2 s.out.length c2) kv id w' (HW.out.later hb) h1 h2)
 have CM:=fun w' (hb:Below w.heap.size w w')=>y34h (ze4 s fv (.slice o1 s.store.length c1) (.slice o2 s.out.length c2) kv (itS id kd num px py) w' (HW.out.later hb) ⟨hid,hkd⟩ hf h1 h2 hk1 hk2 hk3 hc ht)
 have EA:=y34h (zzy (s:=s) (x:=(itS id kd num px py)))
 have EB:=y34h (zzz (s:=s) (x:=(itS id kd num px py)))
 have EC:=y34h (zz0 (s:=s) (x:=(itS id kd num px py)))
 have ED:=y34h (zz1 (s:=s) (x:=(itS id kd num px py)))
 have EE:=y34h (zz2 (s:=s) (x:=(itS id kd num px py)))
 have kw:IntKind.i64.wrap ((s.store.length:Int) + (s.out.length:Int))=(s.store.length:Int) + (s.out.length:Int):=by rw [IntKind.wrap_i64];omega
 have kw2:wrap64 ((s.store.length:Int) + (s.out.length:Int))=(s.store.length:Int) + (s.out.length:Int):=by unfold wrap64;omega
 clear hf h1 h2 hk1 hk2 hk3 hc ht
 have hXid:((itS id kd num px py)).id=id:=rfl
 rw [hXid] at EB EC ED EE
 generalize mayT (itS id kd num px py)=m at EA EB EC ED EE CS
 generalize hhd:(zae s id).1=hd at EB EC ED EE CD
 generalize hok:(zae s id).2=ok at EB EC ED EE CD
 clear hhd hok hXid
 generalize creE s (itS id kd num px py)=ue at *
 generalize creS s (itS id kd num px py)=us at *
 cases m with
 | false =>
   rw [(EA.out rfl).1,(EA.out rfl).2]
   clear EA EB EC ED EE CM CD
   all_goals
     go_enter Tryz.func78,Tryz.ntmps78
     go_wp2_with (first | (go_at_call 152;refine (CS _).out.mono ?_;rintro e w1 ⟨rfl,hb⟩;have OX:=y34h (Own.new w1 (iA (itS id kd num px py)) 58);replace OA:=y34h ((OA.out.later hb).alloc (.cells (iA (itS id kd num px py)) 58));replace OT:=y34h ((OT.out.later hb).alloc (.cells (iA (itS id kd num px py)) 58));replace BEL:=y34h ((BEL.out.trans (hb.mono BEL.out.size)).alloc ((BEL.out.trans (hb.mono BEL.out.size)).size) (.cells (iA (itS id kd num px py)) 58));clear hb) | (refine wpList_load_mid (by rfl) 40 _ (by rfl) w.heap.size 0 (by rfl) (stA s fv (.slice o1 s.store.length c1) (.slice o2 s.out.length c2) kv).toList _ OA.out.range Tryz.underlying40 (by rfl) (by kernel_rfl) ?_) | (refine wpList_store_mid (by rfl) 40 _ _ (by rfl) (w.heap.size + 1) 0 (stA s fv (.slice o1 s.store.length c1) (.slice o2 s.out.length c2) kv) (by rfl) (by rfl) (OT.out.there (by rfl)) (by kernel_rfl) (by simp [Value.oneCell',hfv,hkv]) ?_) | fail)
     have HK:=y34h (And.intro (OT.out.sets (stA s fv (.slice o1 s.store.length c1) (.slice o2 s.out.length c2) kv).toList (by rfl)) (zaa (b:=w.heap.size + 1) (by omega) (stA s fv (.slice o1 s.store.length c1) (.slice o2 s.out.length c2) kv).toList 0 BEL.out))
     clear OX OA OT BEL
     revert HK
     generalize World.setCells _ _ _ _=WW
     intro HK
     exact zab (by rfl) (by rfl) (by rfl) HK.out.1.range Tryz.underlying40 (by rfl) (by kernel_rfl) rfl ⟨(.slice o1 s.store.length c1),(.slice o2 s.out.length c2),kv,rfl,HW.out.later HK.out.2,.refl _ _ _ _ _ _,HK.out.2⟩
 | true =>
   clear EA
   obtain ⟨x1,x2,x3,x4,x5,x6,x7,x8,xd⟩:=hd
   by_cases hw:ok=true∧xd=false
   · rw [(EB.out rfl hw).1,(EB.out rfl hw).2]
     obtain ⟨rfl,rfl⟩:=hw
     clear EB EC ED EE CM
     all_goals
       go_enter Tryz.func78,Tryz.ntmps78
       go_wp2_with (first | (go_at_call 152;refine (CS _).out.mono ?_;rintro e w1 ⟨rfl,hb⟩;have OX:=y34h (Own.new w1 (iA (itS id kd num px py)) 58);replace OA:=y34h ((OA.out.later hb).alloc (.cells (iA (itS id kd num px py)) 58));replace OT:=y34h ((OT.out.later hb).alloc (.cells (iA (itS id kd num px py)) 58));replace BEL:=y34h ((BEL.out.trans (hb.mono BEL.out.size)).alloc ((BEL.out.trans (hb.mono BEL.out.size)).size) (.cells (iA (itS id kd num px py)) 58));clear hb) | (go_at_call 68;refine (CD _ BEL.out).out.mono ?_;rintro e w2 ⟨rfl,hb⟩;replace OX:=y34h ((OX.out.later hb).alloc (.cells (iA (⟨x1,x2,x3,x4,x5,x6,x7,x8,false⟩:Itm)) 58));replace OA:=y34h ((OA.out.later hb).alloc (.cells (iA (⟨x1,x2,x3,x4,x5,x6,x7,x8,false⟩:Itm)) 58));replace OT:=y34h ((OT.out.later hb).alloc (.cells (iA (⟨x1,x2,x3,x4,x5,x6,x7,x8,false⟩:Itm)) 58));replace BEL:=y34h ((BEL.out.trans (hb.mono BEL.out.size)).alloc ((BEL.out.trans (hb.mono BEL.out.size)).size) (.cells (iA (⟨x1,x2,x3,x4,x5,x6,x7,x8,false⟩:Itm)) 58));clear hb) | (refine wpList_load_mid (by rfl) 40 _ (by rfl) w.heap.size 0 (by rfl) (stA s fv (.slice o1 s.store.length c1) (.slice o2 s.out.length c2) kv).toList _ OA.out.range Tryz.underlying40 (by rfl) (by kernel_rfl) ?_) | (refine wpList_store_mid (by rfl) 40 _ _ (by rfl) (w.heap.size + 1) 0 (stA s fv (.slice o1 s.store.length c1) (.slice o2 s.out.length c2) kv) (by rfl) (by rfl) (OT.out.there (by rfl)) (by kernel_rfl) (by simp [Value.oneCell',hfv,hkv]) ?_) | fail)
       have HK:=y34h (And.intro (OT.out.sets (stA s fv (.slice o1 s.store.length c1) (.slice o2 s.out.length c2) kv).toList (by rfl)) (zaa (b:=w.heap.size + 1) (by omega) (stA s fv (.slice o1 s.store.length c1) (.slice o2 s.out.length c2) kv).toList 0 BEL.out))
       clear OX OA OT BEL
       revert HK
       generalize World.setCells _ _ _ _=WW
       intro HK
       exact zab (by rfl) (by rfl) (by rfl) HK.out.1.range Tryz.underlying40 (by rfl) (by kernel_rfl) rfl ⟨(.slice o1 s.store.length c1),(.slice o2 s.out.length c2),kv,rfl,HW.out.later HK.out.2,.refl _ _ _ _ _ _,HK.out.2⟩
   · clear EB
     by_cases hl:ok=false∧s.store.length + s.out.length=40
     · rw [(EC.out rfl hw hl).1,(EC.out rfl hw hl).2]
       clear EC ED EE CM
       obtain ⟨rfl,hl⟩:=hl
       have g1:((s.store.length:Int) + (s.out.length:Int) == 40)=true:=by rw [beq_iff_eq];omega
       clear hw hl
       go_enter Tryz.func78,Tryz.ntmps78
       go_upto_region 7 with (first | (go_at_call 152;refine (CS _).out.mono ?_;rintro e w1 ⟨rfl,hb⟩;have OX:=y34h (Own.new w1 (iA (itS id kd num px py)) 58);replace OA:=y34h ((OA.out.later hb).alloc (.cells (iA (itS id kd num px py)) 58));replace OT:=y34h ((OT.out.later hb).alloc (.cells (iA (itS id kd num px py)) 58));replace BEL:=y34h ((BEL.out.trans (hb.mono BEL.out.size)).alloc ((BEL.out.trans (hb.mono BEL.out.size)).size) (.cells (iA (itS id kd num px py)) 58));clear hb) | (go_at_call 68;refine (CD _ BEL.out).out.mono ?_;rintro e w2 ⟨rfl,hb⟩;replace OX:=y34h ((OX.out.later hb).alloc (.cells (iA (⟨x1,x2,x3,x4,x5,x6,x7,x8,xd⟩:Itm)) 58));replace OA:=y34h ((OA.out.later hb).alloc (.cells (iA (⟨x1,x2,x3,x4,x5,x6,x7,x8,xd⟩:Itm)) 58));replace OT:=y34h ((OT.out.later hb).alloc (.cells (iA (⟨x1,x2,x3,x4,x5,x6,x7,x8,xd⟩:Itm)) 58));replace BEL:=y34h ((BEL.out.trans (hb.mono BEL.out.size)).alloc ((BEL.out.trans (hb.mono BEL.out.size)).size) (.cells (iA (⟨x1,x2,x3,x4,x5,x6,x7,x8,xd⟩:Itm)) 58));clear hb) | (refine wpList_load_mid (by rfl) 40 _ (by rfl) w.heap.size 0 (by rfl) (stA s fv (.slice o1 s.store.length c1) (.slice o2 s.out.length c2) kv).toList _ OA.out.range Tryz.underlying40 (by rfl) (by kernel_rfl) ?_) | fail)
       have HP:=And.intro OX.out (And.intro OA.out (And.intro OT.out BEL.out))
       clear OX OA OT BEL
       revert HP
       generalize w2.alloc (.cells (iA (⟨x1,x2,x3,x4,x5,x6,x7,x8,xd⟩:Itm)) 58)=W2
       rintro ⟨ox,oa,ot,bel⟩
       have OX:=y34h ox
       have OA:=y34h oa
       have OT:=y34h ot
       have BEL:=y34h bel
       have l6:=(OA.out.cell 6).trans (show ((stA s fv (.slice o1 s.store.length c1) (.slice o2 s.out.length c2) kv))[6]?=some (.slice o1 s.store.length c1) from rfl)
       have l7:=(OA.out.cell 7).trans (show ((stA s fv (.slice o1 s.store.length c1) (.slice o2 s.out.length c2) kv))[7]?=some (.slice o2 s.out.length c2) from rfl)
       have zOA:=OA.out.lt
       clear ox oa ot bel
       go_upto_region 8 with fail
       clear l6 l7 zOA kw kw2 g1
       go_wp2_with (first | (refine wpList_load_mid (by rfl) 40 _ (by rfl) w.heap.size 0 (by rfl) (stA s fv (.slice o1 s.store.length c1) (.slice o2 s.out.length c2) kv).toList _ OA.out.range Tryz.underlying40 (by rfl) (by kernel_rfl) ?_) | (refine wpList_store_mid (by rfl) 40 _ _ (by rfl) (w.heap.size + 1) 0 (stA s fv (.slice o1 s.store.length c1) (.slice o2 s.out.length c2) kv) (by rfl) (by rfl) (OT.out.there (by rfl)) (by kernel_rfl) (by simp [Value.oneCell',hfv,hkv]) ?_) | fail)
       have HK:=y34h (And.intro (OT.out.sets (stA s fv (.slice o1 s.store.length c1) (.slice o2 s.out.length c2) kv).toList (by rfl)) (zaa (b:=w.heap.size + 1) (by omega) (stA s fv (.slice o1 s.store.length c1) (.slice o2 s.out.length c2) kv).toList 0 BEL.out))
       clear OX OA OT BEL
       revert HK
       generalize World.setCells _ _ _ _=WW
       intro HK
       exact zab (by rfl) (by rfl) (by rfl) HK.out.1.range Tryz.underlying40 (by rfl) (by kernel_rfl) rfl ⟨(.slice o1 s.store.length c1),(.slice o2 s.out.length c2),kv,rfl,HW.out.later HK.out.2,.refl _ _ _ _ _ _,HK.out.2⟩
     · have CM2:=fun w' (hb:Below w.heap.size w w')=>y34h (show Calls Tryz.prog 153 #[stV s fv (.slice o1 s.store.length c1) (.slice o2 s.out.length c2) kv,iV (itS id kd num px py)] w' (fun e w''=>∃ sv' ov' kv',e=.returned (.tuple #[stV us fv sv' ov' kv',.int .i64 ue])∧StX w'' w'.heap.size s us (.slice o1 s.store.length c1) (.slice o2 s.out.length c2) kv sv' ov' kv'∧Below w'.heap.size w' w'') from (CM w' hb).out.mono fun e w'' h=>by
         rcases h with ⟨hf,he,hb2⟩ | ⟨hf,sv',ov',kv',he,hst,hr,hb2⟩
         · rw [(ED.out rfl hw hl hf).1,(ED.out rfl hw hl hf).2]
           exact ⟨(.slice o1 s.store.length c1),(.slice o2 s.out.length c2),kv,he,.refl _ _ _ _ _ _,hb2⟩
         · rw [(EE.out rfl hw hl hf).1,(EE.out rfl hw hl hf).2]
           exact ⟨sv',ov',kv',he,.inr ⟨rfl,hr⟩,hb2⟩)
       clear CM EC ED EE
       have hways:(ok=true∧xd=true) ∨ (ok=false∧((s.store.length:Int) + (s.out.length:Int) == 40)=false):=by
         cases ok with
         | false=>exact .inr ⟨rfl,by rw [beq_eq_false_iff_ne];intro h;exact hl ⟨rfl,by omega⟩⟩
         | true =>
           refine .inl ⟨rfl,?_⟩
           cases xd with
           | false=>exact absurd ⟨rfl,rfl⟩ hw
           | true=>rfl
       clear hw hl
       rcases hways with ⟨rfl,rfl⟩ | ⟨rfl,g1⟩
       · go_enter Tryz.func78,Tryz.ntmps78
         go_upto_region 7 with (first | (go_at_call 152;refine (CS _).out.mono ?_;rintro e w1 ⟨rfl,hb⟩;have OX:=y34h (Own.new w1 (iA (itS id kd num px py)) 58);replace OA:=y34h ((OA.out.later hb).alloc (.cells (iA (itS id kd num px py)) 58));replace OT:=y34h ((OT.out.later hb).alloc (.cells (iA (itS id kd num px py)) 58));replace BEL:=y34h ((BEL.out.trans (hb.mono BEL.out.size)).alloc ((BEL.out.trans (hb.mono BEL.out.size)).size) (.cells (iA (itS id kd num px py)) 58));clear hb) | (go_at_call 68;refine (CD _ BEL.out).out.mono ?_;rintro e w2 ⟨rfl,hb⟩;replace OX:=y34h ((OX.out.later hb).alloc (.cells (iA (⟨x1,x2,x3,x4,x5,x6,x7,x8,true⟩:Itm)) 58));replace OA:=y34h ((OA.out.later hb).alloc (.cells (iA (⟨x1,x2,x3,x4,x5,x6,x7,x8,true⟩:Itm)) 58));replace OT:=y34h ((OT.out.later hb).alloc (.cells (iA (⟨x1,x2,x3,x4,x5,x6,x7,x8,true⟩:Itm)) 58));replace BEL:=y34h ((BEL.out.trans (hb.mono BEL.out.size)).alloc ((BEL.out.trans (hb.mono BEL.out.size)).size) (.cells (iA (⟨x1,x2,x3,x4,x5,x6,x7,x8,true⟩:Itm)) 58));clear hb) | (refine wpList_load_mid (by rfl) 40 _ (by rfl) w.heap.size 0 (by rfl) (stA s fv (.slice o1 s.store.length c1) (.slice o2 s.out.length c2) kv).toList _ OA.out.range Tryz.underlying40 (by rfl) (by kernel_rfl) ?_) | fail)
         have HP:=And.intro OX.out (And.intro OA.out (And.intro OT.out BEL.out))
         clear OX OA OT BEL
         revert HP
         generalize w2.alloc (.cells (iA (⟨x1,x2,x3,x4,x5,x6,x7,x8,true⟩:Itm)) 58)=W2
         rintro ⟨ox,oa,ot,bel⟩
         have OX:=y34h ox
         have OA:=y34h oa
         have OT:=y34h ot
         have BEL:=y34h bel
         have l6:=(OA.out.cell 6).trans (show ((stA s fv (.slice o1 s.store.length c1) (.slice o2 s.out.length c2) kv))[6]?=some (.slice o1 s.store.length c1) from rfl)
         have l7:=(OA.out.cell 7).trans (show ((stA s fv (.slice o1 s.store.length c1) (.slice o2 s.out.length c2) kv))[7]?=some (.slice o2 s.out.length c2) from rfl)
         have zOA:=OA.out.lt
         clear ox oa ot bel
         go_upto_region 9 with fail
         clear l6 l7 zOA kw kw2
         have lOX:=OX.out.cell
         have zOX:=OX.out.lt
         go_wp2_with (first | (go_at_call 153;refine (CM2 _ BEL.out).out.mono ?_;rintro e w3 ⟨sv',ov',kv',rfl,hx,hb⟩;have hst:=hx.lies HW.out (BEL.out.trans (hb.mono BEL.out.size));have hBs:=OT.out.lt;have hfv3:fv.oneCell'=true:=zas hst.lf;have hsv3:sv'.oneCell'=true:=(by obtain ⟨_,_,_,_,e,_⟩:=hst.ls;rw [e];rfl);have hov3:ov'.oneCell'=true:=(by obtain ⟨_,_,_,_,e,_⟩:=hst.lo;rw [e];rfl);have hkv3:kv'.oneCell'=true:=(by obtain ⟨_,_,e⟩:=hst.lk.val;rw [e];rfl);unfold Value.oneCell' at hfv3 hsv3 hov3 hkv3;have HST:=y34h hx;have HBS:=y34h hBs;have BE2:=y34h (BEL.out.trans (hb.mono BEL.out.size));have OT2:=y34h (OT.out.later hb);clear hst hx hb hBs lOX zOX) | (refine wpList_load_mid (by rfl) 40 _ (by rfl) w.heap.size 0 (by rfl) (stA s fv (.slice o1 s.store.length c1) (.slice o2 s.out.length c2) kv).toList _ OA.out.range Tryz.underlying40 (by rfl) (by kernel_rfl) ?_) | (refine wpList_store_mid (by rfl) 40 _ _ (by rfl) (w.heap.size + 1) 0 (stA us fv sv' ov' kv') (by rfl) (by rfl) (OT2.out.there (by rfl)) (by kernel_rfl) (by simp [Value.oneCell',hfv3,hsv3,hov3,hkv3]) ?_) | fail)
         have HK:=y34h (And.intro (OT2.out.sets (stA us fv sv' ov' kv').toList (by rfl)) (And.intro (zaa (b:=w.heap.size + 1) (by omega) (stA us fv sv' ov' kv').toList 0 BE2.out) (HST.out.sets HBS.out (stA us fv sv' ov' kv').toList)))
         have hle:=BEL.out.size
         clear OX OA OT BEL OT2 BE2 HST
         revert HK
         generalize World.setCells _ _ _ _=WW
         intro HK
         exact zab (by rfl) (by rfl) (by rfl) HK.out.1.range Tryz.underlying40 (by rfl) (by kernel_rfl) rfl ⟨sv',ov',kv',rfl,HK.out.2.2.lies HW.out HK.out.2.1,HK.out.2.2.mono hle,HK.out.2.1⟩
       · go_enter Tryz.func78,Tryz.ntmps78
         go_upto_region 7 with (first | (go_at_call 152;refine (CS _).out.mono ?_;rintro e w1 ⟨rfl,hb⟩;have OX:=y34h (Own.new w1 (iA (itS id kd num px py)) 58);replace OA:=y34h ((OA.out.later hb).alloc (.cells (iA (itS id kd num px py)) 58));replace OT:=y34h ((OT.out.later hb).alloc (.cells (iA (itS id kd num px py)) 58));replace BEL:=y34h ((BEL.out.trans (hb.mono BEL.out.size)).alloc ((BEL.out.trans (hb.mono BEL.out.size)).size) (.cells (iA (itS id kd num px py)) 58));clear hb) | (go_at_call 68;refine (CD _ BEL.out).out.mono ?_;rintro e w2 ⟨rfl,hb⟩;replace OX:=y34h ((OX.out.later hb).alloc (.cells (iA (⟨x1,x2,x3,x4,x5,x6,x7,x8,xd⟩:Itm)) 58));replace OA:=y34h ((OA.out.later hb).alloc (.cells (iA (⟨x1,x2,x3,x4,x5,x6,x7,x8,xd⟩:Itm)) 58));replace OT:=y34h ((OT.out.later hb).alloc (.cells (iA (⟨x1,x2,x3,x4,x5,x6,x7,x8,xd⟩:Itm)) 58));replace BEL:=y34h ((BEL.out.trans (hb.mono BEL.out.size)).alloc ((BEL.out.trans (hb.mono BEL.out.size)).size) (.cells (iA (⟨x1,x2,x3,x4,x5,x6,x7,x8,xd⟩:Itm)) 58));clear hb) | (refine wpList_load_mid (by rfl) 40 _ (by rfl) w.heap.size 0 (by rfl) (stA s fv (.slice o1 s.store.length c1) (.slice o2 s.out.length c2) kv).toList _ OA.out.range Tryz.underlying40 (by rfl) (by kernel_rfl) ?_) | fail)
         have HP:=And.intro OX.out (And.intro OA.out (And.intro OT.out BEL.out))
         clear OX OA OT BEL
         revert HP
         generalize w2.alloc (.cells (iA (⟨x1,x2,x3,x4,x5,x6,x7,x8,xd⟩:Itm)) 58)=W2
         rintro ⟨ox,oa,ot,bel⟩
         have OX:=y34h ox
         have OA:=y34h oa
         have OT:=y34h ot
         have BEL:=y34h bel
         have l6:=(OA.out.cell 6).trans (show ((stA s fv (.slice o1 s.store.length c1) (.slice o2 s.out.length c2) kv))[6]?=some (.slice o1 s.store.length c1) from rfl)
         have l7:=(OA.out.cell 7).trans (show ((stA s fv (.slice o1 s.store.length c1) (.slice o2 s.out.length c2) kv))[7]?=some (.slice o2 s.out.length c2) from rfl)
         have zOA:=OA.out.lt
         clear ox oa ot bel
         go_upto_region 9 with fail
         clear l6 l7 zOA kw kw2 g1
         have lOX:=OX.out.cell
         have zOX:=OX.out.lt
         go_wp2_with (first | (go_at_call 153;refine (CM2 _ BEL.out).out.mono ?_;rintro e w3 ⟨sv',ov',kv',rfl,hx,hb⟩;have hst:=hx.lies HW.out (BEL.out.trans (hb.mono BEL.out.size));have hBs:=OT.out.lt;have hfv3:fv.oneCell'=true:=zas hst.lf;have hsv3:sv'.oneCell'=true:=(by obtain ⟨_,_,_,_,e,_⟩:=hst.ls;rw [e];rfl);have hov3:ov'.oneCell'=true:=(by obtain ⟨_,_,_,_,e,_⟩:=hst.lo;rw [e];rfl);have hkv3:kv'.oneCell'=true:=(by obtain ⟨_,_,e⟩:=hst.lk.val;rw [e];rfl);unfold Value.oneCell' at hfv3 hsv3 hov3 hkv3;have HST:=y34h hx;have HBS:=y34h hBs;have BE2:=y34h (BEL.out.trans (hb.mono BEL.out.size));have OT2:=y34h (OT.out.later hb);clear hst hx hb hBs lOX zOX) | (refine wpList_load_mid (by rfl) 40 _ (by rfl) w.heap.size 0 (by rfl) (stA s fv (.slice o1 s.store.length c1) (.slice o2 s.out.length c2) kv).toList _ OA.out.range Tryz.underlying40 (by rfl) (by kernel_rfl) ?_) | (refine wpList_store_mid (by rfl) 40 _ _ (by rfl) (w.heap.size + 1) 0 (stA us fv sv' ov' kv') (by rfl) (by rfl) (OT2.out.there (by rfl)) (by kernel_rfl) (by simp [Value.oneCell',hfv3,hsv3,hov3,hkv3]) ?_) | fail)
         have HK:=y34h (And.intro (OT2.out.sets (stA us fv sv' ov' kv').toList (by rfl)) (And.intro (zaa (b:=w.heap.size + 1) (by omega) (stA us fv sv' ov' kv').toList 0 BE2.out) (HST.out.sets HBS.out (stA us fv sv' ov' kv').toList)))
         have hle:=BEL.out.size
         clear OX OA OT BEL OT2 BE2 HST
         revert HK
         generalize World.setCells _ _ _ _=WW
         intro HK
         exact zab (by rfl) (by rfl) (by rfl) HK.out.1.range Tryz.underlying40 (by rfl) (by kernel_rfl) rfl ⟨sv',ov',kv',rfl,HK.out.2.2.lies HW.out HK.out.2.1,HK.out.2.2.mono hle,HK.out.2.1⟩
end Go.Proofs.YtodfhabkdaiopaaGreat
