/- Joined: LocDel, LocalA, LocalC, LocN. -/
import Derived.Test.YtodfhabkdaiopaaGreatJ42
import Derived.Test.YtodfhabkdaiopaaGreatJ36
import Derived.Test.YtodfhabkdaiopaaGreatJ38
import Derived.Test.YtodfhabkdaiopaaGreatJ37
import Derived.Test.YtodfhabkdaiopaaGreatJ45
import Derived.Test.YtodfhabkdaiopaaGreatJ46
import Derived.Test.YtodfhabkdaiopaaGreatJ40
namespace Go.Proofs.YtodfhabkdaiopaaGreat
set_option linter.unusedVariables false
set_option linter.unusedSimpArgs false
set_option maxRecDepth 100000
set_option maxHeartbeats 8000000
open Go.RowKit
theorem y47h {p:Prop} (h:p):Go.RowKit.Hid p:=Lib.hid h
theorem zi7 (s:St) (fv sv ov kv:Value) (id:ByteArray) (w:World) (hS:StW w s fv sv ov kv) (hG:Good s) (hB:StB s) (hid:id.size≤maxLen) :
   Calls Tryz.prog 76 #[stV s fv sv ov kv,.string id] w (Told errI s.f fv s sv ov kv (delS s id) (delE s id) w):=by
 have hb1:=hB.f
 have hb2:=hB.ls
 have hb3:=hB.lo
 have hb4:=hB.kl
 have hb5:=hB.ki
 have AG:=fun w' h=>y47h (zdf s fv sv ov kv w' h (by omega) (by omega) (by omega) (by omega) (by omega))
 have GT:=fun w' h=>y47h (zoc hG id ▸ zh8 s fv sv ov kv id w' h hG.rs hG.ro (by omega) (by omega) hid)
 have VC:=fun (he:(zae s id).1.id=id) (hsz:(zae s id).1.id.size≤maxLen∧(zae s id).1.kd.size≤maxLen) w' h=>y47h (zd4 s fv sv ov kv (zfv (zae s id).1) w' h hG hsz hb1 (by show (zaf (zal s.k (zae s id).1.id s.r (s.count + 1)).l).length≤10000;rw [he,zbk];omega) (by omega) (by omega))
 have hsz:=y47h (zjk hS id)
 have hid1:=y47h (show (zae s id).2=true→(zae s id).1.id=id from zmy)
 have FT:=fun w'=>y47h (zg3 id w')
 obtain ⟨of_,cf,rfl⟩:=zao hS.lf
 obtain ⟨os,cs,rfl⟩:=hS.ls.val
 obtain ⟨oo,co,rfl⟩:=hS.lo.val
 obtain ⟨ok,ck,rfl⟩:=hS.lk.val
 have HW:=y47h hS
 have E1:=y47h (ztb (s:=s) (id:=id))
 have E2:=y47h (ztc (s:=s) (id:=id))
 have EV:=y47h (z1i (s:=s) (id:=id))
 clear hS hG hB hb1 hb2 hb3 hb4 hb5 hid
 generalize delS s id=us at *
 generalize delE s id=ue at *
 generalize zbd id=bm at *
 generalize hq:zae s id=q at *
 obtain ⟨⟨y1,y2,y3,y4,y5,y6,y7,y8,yd⟩,bt⟩:=q
 have OA:=y47h ((Own.new w (stA s (.slice of_ s.f.kids.length cf) (.slice os s.store.length cs) (.slice oo s.out.length co) (.slice ok s.k.l.length ck)) 40).alloc (.cells stZ.toArray 40))
 have OT:=y47h (Own.newAt (w.alloc (.cells (stA s (.slice of_ s.f.kids.length cf) (.slice os s.store.length cs) (.slice oo s.out.length co) (.slice ok s.k.l.length ck)) 40)) stZ.toArray 40 (b:=w.heap.size + 1) (by simp))
 have BE:=y47h (((Below.refl w.heap.size w).alloc (Nat.le_refl _) (.cells (stA s (.slice of_ s.f.kids.length cf) (.slice os s.store.length cs) (.slice oo s.out.length co) (.slice ok s.k.l.length ck)) 40)).alloc (by simp) (.cells stZ.toArray 40))
 have lOA:=OA.out.cell
 have zOA:=OA.out.lt
 go_enter Tryz.func76,Tryz.ntmps76
 go_wp2_with (first | (refine wpList_load_mid (by rfl) 40 _ (by rfl) w.heap.size 0 (by rfl) ((stA s (.slice of_ s.f.kids.length cf) (.slice os s.store.length cs) (.slice oo s.out.length co) (.slice ok s.k.l.length ck))).toList _ OA.out.range Tryz.underlying40 (by rfl) (by kernel_rfl) ?_) | fail)
 refine (GT _ (HW.out.later BE.out)).out.mono ?_
 rintro e w1 ⟨rfl,hb⟩
 clear lOA zOA
 replace OA:=y47h (OA.out.later hb)
 replace OT:=y47h (OT.out.later hb)
 replace BE:=y47h (BE.out.trans (hb.mono BE.out.size))
 clear hb
 have O6:=y47h (Own.new w1 (iA (⟨y1,y2,y3,y4,y5,y6,y7,y8,yd⟩:Itm)) 58)
 have OA0:=OA
 have OT0:=OT
 have BE0:=BE
 replace BE:=y47h (BE.out.alloc (by have:=BE.out.size;omega) (.cells (iA (⟨y1,y2,y3,y4,y5,y6,y7,y8,yd⟩:Itm)) 58))
 replace OA:=y47h (OA.out.alloc (.cells (iA (⟨y1,y2,y3,y4,y5,y6,y7,y8,yd⟩:Itm)) 58))
 replace OT:=y47h (OT.out.alloc (.cells (iA (⟨y1,y2,y3,y4,y5,y6,y7,y8,yd⟩:Itm)) 58))
 have lOA:=OA.out.cell
 have zOA:=OA.out.lt
 go_wp2_with fail
 refine (FT _).out.mono ?_
 rintro e w2 ⟨rfl,rfl⟩
 clear lOA zOA
 have lOA:=OA.out.cell
 have zOA:=OA.out.lt
 have lO6:=O6.out.cell
 have zO6:=O6.out.lt
 cases bm
 · have EE:=y47h (And.intro (E1.out rfl).2 (E1.out rfl).1)
   clear E1 E2 EV hq VC
   go_wp2_with (first | (refine wpList_load_mid (by rfl) 40 _ (by rfl) w.heap.size 0 (by rfl) ((stA s (.slice of_ s.f.kids.length cf) (.slice os s.store.length cs) (.slice oo s.out.length co) (.slice ok s.k.l.length ck))).toList _ OA.out.range Tryz.underlying40 (by rfl) (by kernel_rfl) ?_) | fail)
   refine (AG _ (HW.out.later BE.out)).out.mono ?_
   rintro e w3 ⟨v3,v4,v5,v6,rfl,hl,hr4,hr5,hk,hb⟩
   obtain ⟨o3,c3,rfl⟩:=zao hl.lp
   obtain ⟨o4,c4,rfl⟩:=hr4.row.val
   obtain ⟨o5,c5,rfl⟩:=hr5.row.val
   obtain ⟨o6,c6,rfl⟩:=hk.fr.val
   have zw:=OT.out.lt
   have zB:=BE.out.size
   clear lOA zOA lO6 zO6
   replace BE:=y47h (BE.out.trans (hb.mono BE.out.size))
   replace OT:=y47h (OT.out.later hb)
   have HK:=y47h (And.intro (OT.out.sets (stA s (.slice o3 s.f.kids.length c3) (.slice o4 s.store.length c4) (.slice o5 s.out.length c5) (.slice o6 s.k.l.length c6)).toList (by rfl)) (And.intro (zaa (b:=w.heap.size + 1) (by omega) (stA s (.slice o3 s.f.kids.length c3) (.slice o4 s.store.length c4) (.slice o5 s.out.length c5) (.slice o6 s.k.l.length c6)).toList 0 BE.out) (And.intro ((hl.setsAt (b:=w.heap.size + 1) zw (stA s (.slice o3 s.f.kids.length c3) (.slice o4 s.store.length c4) (.slice o5 s.out.length c5) (.slice o6 s.k.l.length c6)).toList 0).mono' zB) (And.intro ((hr4.sets (b:=w.heap.size + 1) zw (stA s (.slice o3 s.f.kids.length c3) (.slice o4 s.store.length c4) (.slice o5 s.out.length c5) (.slice o6 s.k.l.length c6)).toList 0).mono zB) (And.intro ((hr5.sets (b:=w.heap.size + 1) zw (stA s (.slice o3 s.f.kids.length c3) (.slice o4 s.store.length c4) (.slice o5 s.out.length c5) (.slice o6 s.k.l.length c6)).toList 0).mono zB) ((hk.sets (b:=w.heap.size + 1) zw (stA s (.slice o3 s.f.kids.length c3) (.slice o4 s.store.length c4) (.slice o5 s.out.length c5) (.slice o6 s.k.l.length c6)).toList 0).mono zB))))))
   clear hl hr4 hr5 hk hb zw zB
   go_wp2_with (first | (refine wpList_store_mid (by rfl) 40 _ _ (by rfl) (w.heap.size + 1) 0 (stA s (.slice o3 s.f.kids.length c3) (.slice o4 s.store.length c4) (.slice o5 s.out.length c5) (.slice o6 s.k.l.length c6)) (by rfl) (by rfl) (OT.out.there (by rfl)) (by kernel_rfl) (by simp [Value.oneCell']) ?_) | fail)
   revert HK
   generalize World.setCells _ _ _ _=WW
   intro HK
   refine zab (by rfl) (by rfl) (by rfl) HK.out.1.range Tryz.underlying40 (by rfl) (by kernel_rfl) rfl ?_
   rw [EE.out.1,EE.out.2]
   exact ⟨_,_,_,_,rfl,⟨.inr HK.out.2.2.1,.inr HK.out.2.2.2.1,.inr HK.out.2.2.2.2.1,.inr HK.out.2.2.2.2.2⟩,HK.out.2.1⟩
 · clear E1
   cases bt
   · have EE:=y47h (And.intro (E2.out rfl (by simp)).2 (E2.out rfl (by simp)).1)
     clear EV E2 hq VC
     go_wp2_with (first | (refine wpList_load_mid (by rfl) 40 _ (by rfl) w.heap.size 0 (by rfl) ((stA s (.slice of_ s.f.kids.length cf) (.slice os s.store.length cs) (.slice oo s.out.length co) (.slice ok s.k.l.length ck))).toList _ OA.out.range Tryz.underlying40 (by rfl) (by kernel_rfl) ?_) | fail)
     refine (AG _ (HW.out.later BE.out)).out.mono ?_
     rintro e w3 ⟨v3,v4,v5,v6,rfl,hl,hr4,hr5,hk,hb⟩
     obtain ⟨o3,c3,rfl⟩:=zao hl.lp
     obtain ⟨o4,c4,rfl⟩:=hr4.row.val
     obtain ⟨o5,c5,rfl⟩:=hr5.row.val
     obtain ⟨o6,c6,rfl⟩:=hk.fr.val
     have zw:=OT.out.lt
     have zB:=BE.out.size
     clear lOA zOA lO6 zO6
     replace BE:=y47h (BE.out.trans (hb.mono BE.out.size))
     replace OT:=y47h (OT.out.later hb)
     have HK:=y47h (And.intro (OT.out.sets (stA s (.slice o3 s.f.kids.length c3) (.slice o4 s.store.length c4) (.slice o5 s.out.length c5) (.slice o6 s.k.l.length c6)).toList (by rfl)) (And.intro (zaa (b:=w.heap.size + 1) (by omega) (stA s (.slice o3 s.f.kids.length c3) (.slice o4 s.store.length c4) (.slice o5 s.out.length c5) (.slice o6 s.k.l.length c6)).toList 0 BE.out) (And.intro ((hl.setsAt (b:=w.heap.size + 1) zw (stA s (.slice o3 s.f.kids.length c3) (.slice o4 s.store.length c4) (.slice o5 s.out.length c5) (.slice o6 s.k.l.length c6)).toList 0).mono' zB) (And.intro ((hr4.sets (b:=w.heap.size + 1) zw (stA s (.slice o3 s.f.kids.length c3) (.slice o4 s.store.length c4) (.slice o5 s.out.length c5) (.slice o6 s.k.l.length c6)).toList 0).mono zB) (And.intro ((hr5.sets (b:=w.heap.size + 1) zw (stA s (.slice o3 s.f.kids.length c3) (.slice o4 s.store.length c4) (.slice o5 s.out.length c5) (.slice o6 s.k.l.length c6)).toList 0).mono zB) ((hk.sets (b:=w.heap.size + 1) zw (stA s (.slice o3 s.f.kids.length c3) (.slice o4 s.store.length c4) (.slice o5 s.out.length c5) (.slice o6 s.k.l.length c6)).toList 0).mono zB))))))
     clear hl hr4 hr5 hk hb zw zB
     go_wp2_with (first | (refine wpList_store_mid (by rfl) 40 _ _ (by rfl) (w.heap.size + 1) 0 (stA s (.slice o3 s.f.kids.length c3) (.slice o4 s.store.length c4) (.slice o5 s.out.length c5) (.slice o6 s.k.l.length c6)) (by rfl) (by rfl) (OT.out.there (by rfl)) (by kernel_rfl) (by simp [Value.oneCell']) ?_) | fail)
     revert HK
     generalize World.setCells _ _ _ _=WW
     intro HK
     refine zab (by rfl) (by rfl) (by rfl) HK.out.1.range Tryz.underlying40 (by rfl) (by kernel_rfl) rfl ?_
     rw [EE.out.1,EE.out.2]
     exact ⟨_,_,_,_,rfl,⟨.inr HK.out.2.2.1,.inr HK.out.2.2.2.1,.inr HK.out.2.2.2.2.1,.inr HK.out.2.2.2.2.2⟩,HK.out.2.1⟩
   · cases yd
     · have EE:=y47h (EV.out rfl ⟨rfl,rfl⟩)
       clear EV E2 hq
       replace VC:=VC (hid1.out rfl) hsz.out
       change ∀ w',_→Hid (Calls Tryz.prog 150 #[stV s (.slice of_ s.f.kids.length cf) (.slice os s.store.length cs) (.slice oo s.out.length co) (.slice ok s.k.l.length ck),iV ⟨y1,y2,y3,y4,y5,y6,y7,y8,true⟩] w' (Told errI s.f (.slice of_ s.f.kids.length cf) s (.slice os s.store.length cs) (.slice oo s.out.length co) (.slice ok s.k.l.length ck) (verS s ⟨y1,y2,y3,y4,y5,y6,y7,y8,true⟩) (verE s) w')) at VC
       change Hid (us=verS s ⟨y1,y2,y3,y4,y5,y6,y7,y8,true⟩∧ue=verE s) at EE
       generalize verS s ⟨y1,y2,y3,y4,y5,y6,y7,y8,true⟩=U at *
       generalize verE s=VE at *
       clear lOA zOA lO6 zO6
       have OD:=y47h (Own.new w1 (iA (⟨y1,y2,y3,y4,y5,y6,y7,y8,true⟩:Itm)) 58)
       clear O6
       have OA:=y47h (OA0.out.alloc (.cells (iA (⟨y1,y2,y3,y4,y5,y6,y7,y8,true⟩:Itm)) 58))
       have OT:=y47h (OT0.out.alloc (.cells (iA (⟨y1,y2,y3,y4,y5,y6,y7,y8,true⟩:Itm)) 58))
       have BE:=y47h (BE0.out.alloc (by have:=BE0.out.size;omega) (.cells (iA (⟨y1,y2,y3,y4,y5,y6,y7,y8,true⟩:Itm)) 58))
       clear OA0 OT0 BE0
       have lOA:=OA.out.cell
       have zOA:=OA.out.lt
       have lOD:=OD.out.cell
       have zOD:=OD.out.lt
       go_wp2_with (first | (refine wpList_load_mid (by rfl) 40 _ (by rfl) w.heap.size 0 (by rfl) ((stA s (.slice of_ s.f.kids.length cf) (.slice os s.store.length cs) (.slice oo s.out.length co) (.slice ok s.k.l.length ck))).toList _ OA.out.range Tryz.underlying40 (by rfl) (by kernel_rfl) ?_) | fail)
       refine (VC _ (HW.out.later BE.out)).out.mono ?_
       rintro e w3 ⟨v3,v4,v5,v6,rfl,hn,hb⟩
       have hst:=hn.lies (HW.out.later BE.out).lf (HW.out.later BE.out).ls (HW.out.later BE.out).lo (HW.out.later BE.out).lk hb
       have hfv3:v3.oneCell'=true:=zas hst.lf
       have hsv3:v4.oneCell'=true:=(by obtain ⟨_,_,_,_,e,_⟩:=hst.ls;rw [e];rfl)
       have hov3:v5.oneCell'=true:=(by obtain ⟨_,_,_,_,e,_⟩:=hst.lo;rw [e];rfl)
       have hkv3:v6.oneCell'=true:=(by obtain ⟨_,_,e⟩:=hst.lk.val;rw [e];rfl)
       unfold Value.oneCell' at hfv3 hsv3 hov3 hkv3
       have zw:=OT.out.lt
       have zB:=BE.out.size
       clear lOA zOA lOD zOD
       replace BE:=y47h (BE.out.trans (hb.mono BE.out.size))
       replace OT:=y47h (OT.out.later hb)
       have HK:=y47h (And.intro (OT.out.sets (stA U v3 v4 v5 v6).toList (by rfl)) (And.intro (zaa (b:=w.heap.size + 1) (by omega) (stA U v3 v4 v5 v6).toList 0 BE.out) ((hn.sets zw (stA U v3 v4 v5 v6).toList).mono zB)))
       clear hn hb hst zw zB
       go_wp2_with (first | (refine wpList_store_mid (by rfl) 40 _ _ (by rfl) (w.heap.size + 1) 0 (stA U v3 v4 v5 v6) (by rfl) (by rfl) (OT.out.there (by rfl)) (by kernel_rfl) (by simp [Value.oneCell',hfv3,hsv3,hov3,hkv3]) ?_) | fail)
       revert HK
       generalize World.setCells _ _ _ _=WW
       intro HK
       refine zab (by rfl) (by rfl) (by rfl) HK.out.1.range Tryz.underlying40 (by rfl) (by kernel_rfl) rfl ?_
       rw [EE.out.1,EE.out.2]
       exact ⟨v3,v4,v5,v6,rfl,HK.out.2.2,HK.out.2.1⟩
     · have EE:=y47h (And.intro (E2.out rfl (by simp)).2 (E2.out rfl (by simp)).1)
       clear EV E2 hq VC
       go_wp2_with (first | (refine wpList_load_mid (by rfl) 40 _ (by rfl) w.heap.size 0 (by rfl) ((stA s (.slice of_ s.f.kids.length cf) (.slice os s.store.length cs) (.slice oo s.out.length co) (.slice ok s.k.l.length ck))).toList _ OA.out.range Tryz.underlying40 (by rfl) (by kernel_rfl) ?_) | fail)
       refine (AG _ (HW.out.later BE.out)).out.mono ?_
       rintro e w3 ⟨v3,v4,v5,v6,rfl,hl,hr4,hr5,hk,hb⟩
       obtain ⟨o3,c3,rfl⟩:=zao hl.lp
       obtain ⟨o4,c4,rfl⟩:=hr4.row.val
       obtain ⟨o5,c5,rfl⟩:=hr5.row.val
       obtain ⟨o6,c6,rfl⟩:=hk.fr.val
       have zw:=OT.out.lt
       have zB:=BE.out.size
       clear lOA zOA lO6 zO6
       replace BE:=y47h (BE.out.trans (hb.mono BE.out.size))
       replace OT:=y47h (OT.out.later hb)
       have HK:=y47h (And.intro (OT.out.sets (stA s (.slice o3 s.f.kids.length c3) (.slice o4 s.store.length c4) (.slice o5 s.out.length c5) (.slice o6 s.k.l.length c6)).toList (by rfl)) (And.intro (zaa (b:=w.heap.size + 1) (by omega) (stA s (.slice o3 s.f.kids.length c3) (.slice o4 s.store.length c4) (.slice o5 s.out.length c5) (.slice o6 s.k.l.length c6)).toList 0 BE.out) (And.intro ((hl.setsAt (b:=w.heap.size + 1) zw (stA s (.slice o3 s.f.kids.length c3) (.slice o4 s.store.length c4) (.slice o5 s.out.length c5) (.slice o6 s.k.l.length c6)).toList 0).mono' zB) (And.intro ((hr4.sets (b:=w.heap.size + 1) zw (stA s (.slice o3 s.f.kids.length c3) (.slice o4 s.store.length c4) (.slice o5 s.out.length c5) (.slice o6 s.k.l.length c6)).toList 0).mono zB) (And.intro ((hr5.sets (b:=w.heap.size + 1) zw (stA s (.slice o3 s.f.kids.length c3) (.slice o4 s.store.length c4) (.slice o5 s.out.length c5) (.slice o6 s.k.l.length c6)).toList 0).mono zB) ((hk.sets (b:=w.heap.size + 1) zw (stA s (.slice o3 s.f.kids.length c3) (.slice o4 s.store.length c4) (.slice o5 s.out.length c5) (.slice o6 s.k.l.length c6)).toList 0).mono zB))))))
       clear hl hr4 hr5 hk hb zw zB
       go_wp2_with (first | (refine wpList_store_mid (by rfl) 40 _ _ (by rfl) (w.heap.size + 1) 0 (stA s (.slice o3 s.f.kids.length c3) (.slice o4 s.store.length c4) (.slice o5 s.out.length c5) (.slice o6 s.k.l.length c6)) (by rfl) (by rfl) (OT.out.there (by rfl)) (by kernel_rfl) (by simp [Value.oneCell']) ?_) | fail)
       revert HK
       generalize World.setCells _ _ _ _=WW
       intro HK
       refine zab (by rfl) (by rfl) (by rfl) HK.out.1.range Tryz.underlying40 (by rfl) (by kernel_rfl) rfl ?_
       rw [EE.out.1,EE.out.2]
       exact ⟨_,_,_,_,rfl,⟨.inr HK.out.2.2.1,.inr HK.out.2.2.2.1,.inr HK.out.2.2.2.2.1,.inr HK.out.2.2.2.2.2⟩,HK.out.2.1⟩
theorem zi8 (s:St) (fv sv ov kv:Value) (f:Pr) (gv:Value) (w:World) (hS:StW w s fv sv ov kv) (hG:Good s) (hB:StB s) (hL:LP w f gv) (hf:f.size≤60) :
   Calls Tryz.prog 77 #[stV s fv sv ov kv,prV f gv] w (zxv errI s.f fv f gv s sv ov kv (filS s f) (filE s f) w) :=
 (zjq s fv sv ov kv f gv w hS hG hB hL hf).mono fun _ _ h=>.inl h
theorem zhb (w:World):Row 8 ic w [] (.slice none 0 0):=(OwnI.nil w 0).row (by simp)
theorem zqq (w:World):FrW w [] (.slice none 0 0):=(zf8 w 0).fr
theorem newC (r:Int) (f:Pr) (v:Value) (w:World) (h:LP w f v) (hf:f.size≤60) :
   Calls Tryz.prog 11 #[.int .i64 r,prV f v] w fun e w'=>∃ f5 s5 o5 k5,e=.returned (.tuple #[stV (newT r f) f5 s5 o5 k5,errI (newE r f)])∧StW w' (newT r f) f5 s5 o5 k5∧Below w.heap.size w w' :=
 (zlv r f v w h hf).mono fun _ _ ⟨f5,s5,o5,k5,he,hx,hb⟩=>⟨f5,s5,o5,k5,he,hx.lies h (zhb w) (zhb w) (zqq w) hb,hb⟩
theorem newD (r:Int) (f:Pr) (v:Value) (w:World) (h:LP w f v) (hf:f.size≤60) :
   Calls Tryz.prog 13 #[.int .i64 r,prV f v] w fun e w'=>∃ f5 s5 o5 k5,e=.returned (.tuple #[stV (newT r f) f5 s5 o5 k5,.int .i64 (newE r f)])∧StW w' (newT r f) f5 s5 o5 k5∧Below w.heap.size w w' :=
 (zig r f v w h (by omega)).mono fun _ _ ⟨hc,hb⟩=>by
   rcases hc with ⟨ho,he⟩ | ⟨ho,he⟩
   · have e1:newT r f=newS r f:=by unfold newT;rw [if_pos ho]
     have e2:newE r f=0:=by unfold newE;rw [if_pos ho]
     rw [e1,e2]
     exact ⟨_,_,_,_,he,zmr (h.later hb (Nat.le_refl _)),hb⟩
   · have e1:newT r f=zhj:=by unfold newT;rw [if_neg (by simp [ho])]
     have e2:newE r f=1:=by unfold newE;rw [if_neg (by simp [ho])]
     rw [e1,e2]
     exact ⟨_,_,_,_,he,zsr _,hb⟩
end Go.Proofs.YtodfhabkdaiopaaGreat
