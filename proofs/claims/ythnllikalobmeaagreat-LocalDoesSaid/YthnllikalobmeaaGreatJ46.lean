/- Joined: LocUpd, LocDel, LocFM, LBoth. -/
import Derived.Test.YthnllikalobmeaaGreatJ42
import Derived.Test.YthnllikalobmeaaGreatJ39
import Derived.Test.YthnllikalobmeaaGreatJ37
import Derived.Test.YthnllikalobmeaaGreatJ38
import Derived.Test.YthnllikalobmeaaGreatJ31
import Derived.Test.YthnllikalobmeaaGreatJ36
import Derived.Laws.MakeOwn
namespace Go.Proofs.YthnllikalobmeaaGreat
set_option linter.unusedVariables false
set_option linter.unusedSimpArgs false
set_option maxRecDepth 100000
set_option maxHeartbeats 8000000
open Go.RowKit
theorem y46h {p:Prop} (h:p):Hid p:=Lib.hid h
theorem zi2 (s:St) (fv sv ov kv:Value) (id kd:ByteArray) (num:Int) (px py:Nat) (w:World) (hS:StW w s fv sv ov kv) (hG:Good s) (hB:StB s) (hid:id.size ≤ maxLen) (hkd:kd.size ≤ maxLen) :
   Calls Tryz.prog 48 #[stV s fv sv ov kv,.string id,.string kd,.int .i64 num,.complex .f64 px py] w (Told errI s.f fv s sv ov kv (updS s (itS id kd num px py)) (updE s (itS id kd num px py)) w):=by
 have hb1:=hB.f
 have hb2:=hB.ls
 have hb3:=hB.lo
 have hb4:=hB.kl
 have hb5:=hB.ki
 have AG:=fun w' h=>y46h (zdd s fv sv ov kv w' h (by omega) (by omega) (by omega) (by omega) (by omega))
 have GT:=fun w' h=>y46h (zos hG id ▸ zh4 s fv sv ov kv id w' h hG.rs hG.ro (by omega) (by omega) hid)
 have VC:=fun w' h=>y46h (zdk s fv sv ov kv (rawI id kd num px py) w' h hG ⟨hid,hkd⟩ hb1 (by show (zag (zap s.k id s.r (s.count + 1)).l).length ≤ 10000;rw [zcq];omega) (by omega) (by omega))
 have FT:=fun w'=>y46h (zhj (rawI id kd num px py) w')
 have hn:=hG.n
 obtain ⟨of_,cf,rfl⟩:=zal hS.lf
 obtain ⟨os,cs,rfl⟩:=hS.ls.val
 obtain ⟨oo,co,rfl⟩:=hS.lo.val
 obtain ⟨ok,ck,rfl⟩:=hS.lk.val
 have HW:=y46h hS
 have E1:=y46h (z2i (s:=s) (x:=itS id kd num px py))
 have E2:=y46h (z2j (s:=s) (x:=itS id kd num px py))
 have EV:=y46h (z2k (s:=s) (id:=id) (kd:=kd) (num:=num) (px:=px) (py:=py))
 clear hS hG hB hb1 hb2 hb3 hb4 hb5 hid hkd
 change ∀ w',Hid (Calls Tryz.prog 68 #[iV (rawI id kd num px py)] w' fun e w''=>e = .returned (.bool (mayT (itS id kd num px py))) ∧ Below w'.heap.size w' w'') at FT
 generalize updS s (itS id kd num px py) = us at *
 generalize updE s (itS id kd num px py) = ue at *
 generalize mayT (itS id kd num px py) = bm at *
 generalize hq:zaf s id = q at *
 obtain ⟨y,bt⟩:=q
 generalize verS s (rawI id kd num px py) = U at *
 generalize verE s = VE at *
 have OA:=y46h (((Own.new w (stA s (.slice of_ s.f.kids.length cf) (.slice os s.store.length cs) (.slice oo s.out.length co) (.slice ok s.k.l.length ck)) 43).alloc (.cells stZ.toArray 43)).alloc (.cells (iA (rawI id kd num px py)) 69))
 have OT:=y46h ((Own.newAt (w.alloc (.cells (stA s (.slice of_ s.f.kids.length cf) (.slice os s.store.length cs) (.slice oo s.out.length co) (.slice ok s.k.l.length ck)) 43)) stZ.toArray 43 (b:=w.heap.size + 1) (by simp)).alloc (.cells (iA (rawI id kd num px py)) 69))
 have OX:=y46h (Own.newAt ((w.alloc (.cells (stA s (.slice of_ s.f.kids.length cf) (.slice os s.store.length cs) (.slice oo s.out.length co) (.slice ok s.k.l.length ck)) 43)).alloc (.cells stZ.toArray 43)) (iA (rawI id kd num px py)) 69 (b:=w.heap.size + 2) (by simp))
 have BE:=y46h ((((Below.refl w.heap.size w).alloc (Nat.le_refl _) (.cells (stA s (.slice of_ s.f.kids.length cf) (.slice os s.store.length cs) (.slice oo s.out.length co) (.slice ok s.k.l.length ck)) 43)).alloc (by simp) (.cells stZ.toArray 43)).alloc (by simp;omega) (.cells (iA (rawI id kd num px py)) 69))
 have lOA:=OA.out.cell
 have zOA:=OA.out.lt
 have lOX:=OX.out.cell
 have zOX:=OX.out.lt
 go_enter Tryz.func48,Tryz.ntmps48
 go_wp2_with (first | (refine wpList_load_mid (by rfl) 43 _ (by rfl) w.heap.size 0 (by rfl) ((stA s (.slice of_ s.f.kids.length cf) (.slice os s.store.length cs) (.slice oo s.out.length co) (.slice ok s.k.l.length ck))).toList _ OA.out.range Tryz.underlying43 (by rfl) (by kernel_rfl) ?_) | fail)
 refine (GT _ (HW.out.later BE.out)).out.mono ?_
 rintro e w1 ⟨rfl,hb⟩
 clear lOA zOA lOX zOX
 replace OA:=y46h (OA.out.later hb)
 replace OT:=y46h (OT.out.later hb)
 replace OX:=y46h (OX.out.later hb)
 replace BE:=y46h (BE.out.trans (hb.mono BE.out.size))
 clear hb
 have O6:=y46h (Own.new w1 (iA y) 69)
 replace BE:=y46h (BE.out.alloc (by have:=BE.out.size;omega) (.cells (iA y) 69))
 replace OA:=y46h (OA.out.alloc (.cells (iA y) 69))
 replace OT:=y46h (OT.out.alloc (.cells (iA y) 69))
 replace OX:=y46h (OX.out.alloc (.cells (iA y) 69))
 have lOA:=OA.out.cell
 have zOA:=OA.out.lt
 have lOX:=OX.out.cell
 have zOX:=OX.out.lt
 go_wp2_with fail
 refine (FT _).out.mono ?_
 rintro e w2 ⟨rfl,hb⟩
 clear lOA zOA lOX zOX
 replace OA:=y46h (OA.out.later hb)
 replace OT:=y46h (OT.out.later hb)
 replace OX:=y46h (OX.out.later hb)
 replace O6:=y46h (O6.out.later hb)
 replace BE:=y46h (BE.out.trans (hb.mono BE.out.size))
 clear hb
 have lOA:=OA.out.cell
 have zOA:=OA.out.lt
 have lOX:=OX.out.cell
 have zOX:=OX.out.lt
 have lO6:=O6.out.cell
 have zO6:=O6.out.lt
 cases bm
 · have EE:=y46h (E1.out rfl)
   go_wp2_with (first | (refine wpList_load_mid (by rfl) 43 _ (by rfl) w.heap.size 0 (by rfl) ((stA s (.slice of_ s.f.kids.length cf) (.slice os s.store.length cs) (.slice oo s.out.length co) (.slice ok s.k.l.length ck))).toList _ OA.out.range Tryz.underlying43 (by rfl) (by kernel_rfl) ?_) | fail)
   refine (AG _ (HW.out.later BE.out)).out.mono ?_
   rintro e w3 ⟨v3,v4,v5,v6,rfl,hl,hr4,hr5,hk,hb⟩
   obtain ⟨o3,c3,rfl⟩:=zal hl.lp
   obtain ⟨o4,c4,rfl⟩:=hr4.row.val
   obtain ⟨o5,c5,rfl⟩:=hr5.row.val
   obtain ⟨o6,c6,rfl⟩:=hk.fr.val
   have zw:=OT.out.lt
   have zB:=BE.out.size
   clear lOA zOA lOX zOX lO6 zO6
   replace BE:=y46h (BE.out.trans (hb.mono BE.out.size))
   replace OT:=y46h (OT.out.later hb)
   have HK:=y46h (And.intro (OT.out.sets (stA s (.slice o3 s.f.kids.length c3) (.slice o4 s.store.length c4) (.slice o5 s.out.length c5) (.slice o6 s.k.l.length c6)).toList (by rfl)) (And.intro (zab (b:=w.heap.size + 1) (by omega) (stA s (.slice o3 s.f.kids.length c3) (.slice o4 s.store.length c4) (.slice o5 s.out.length c5) (.slice o6 s.k.l.length c6)).toList 0 BE.out) (And.intro ((hl.setsAt (b:=w.heap.size + 1) zw (stA s (.slice o3 s.f.kids.length c3) (.slice o4 s.store.length c4) (.slice o5 s.out.length c5) (.slice o6 s.k.l.length c6)).toList 0).mono' zB) (And.intro ((hr4.sets (b:=w.heap.size + 1) zw (stA s (.slice o3 s.f.kids.length c3) (.slice o4 s.store.length c4) (.slice o5 s.out.length c5) (.slice o6 s.k.l.length c6)).toList 0).mono zB) (And.intro ((hr5.sets (b:=w.heap.size + 1) zw (stA s (.slice o3 s.f.kids.length c3) (.slice o4 s.store.length c4) (.slice o5 s.out.length c5) (.slice o6 s.k.l.length c6)).toList 0).mono zB) ((hk.sets (b:=w.heap.size + 1) zw (stA s (.slice o3 s.f.kids.length c3) (.slice o4 s.store.length c4) (.slice o5 s.out.length c5) (.slice o6 s.k.l.length c6)).toList 0).mono zB))))))
   clear hl hr4 hr5 hk hb zw zB
   go_wp2_with (first | (refine wpList_store_mid (by rfl) 43 _ _ (by rfl) (w.heap.size + 1) 0 (stA s (.slice o3 s.f.kids.length c3) (.slice o4 s.store.length c4) (.slice o5 s.out.length c5) (.slice o6 s.k.l.length c6)) (by rfl) (by rfl) (OT.out.there (by rfl)) (by kernel_rfl) (by simp [Value.oneCell']) ?_) | fail)
   revert HK
   generalize World.setCells _ _ _ _ = WW
   intro HK
   refine zae (by rfl) (by rfl) (by rfl) HK.out.1.range Tryz.underlying43 (by rfl) (by kernel_rfl) rfl ?_
   rw [EE.out.1,EE.out.2]
   exact ⟨_,_,_,_,rfl,⟨.inr HK.out.2.2.1,.inr HK.out.2.2.2.1,.inr HK.out.2.2.2.2.1,.inr HK.out.2.2.2.2.2⟩,HK.out.2.1⟩
 · clear E1
   cases bt
   · have EE:=y46h (E2.out rfl (by simp))
     clear EV E2 hq
     go_wp2_with (first | (refine wpList_load_mid (by rfl) 43 _ (by rfl) w.heap.size 0 (by rfl) ((stA s (.slice of_ s.f.kids.length cf) (.slice os s.store.length cs) (.slice oo s.out.length co) (.slice ok s.k.l.length ck))).toList _ OA.out.range Tryz.underlying43 (by rfl) (by kernel_rfl) ?_) | fail)
     refine (AG _ (HW.out.later BE.out)).out.mono ?_
     rintro e w3 ⟨v3,v4,v5,v6,rfl,hl,hr4,hr5,hk,hb⟩
     obtain ⟨o3,c3,rfl⟩:=zal hl.lp
     obtain ⟨o4,c4,rfl⟩:=hr4.row.val
     obtain ⟨o5,c5,rfl⟩:=hr5.row.val
     obtain ⟨o6,c6,rfl⟩:=hk.fr.val
     have zw:=OT.out.lt
     have zB:=BE.out.size
     clear lOA zOA lOX zOX lO6 zO6
     replace BE:=y46h (BE.out.trans (hb.mono BE.out.size))
     replace OT:=y46h (OT.out.later hb)
     have HK:=y46h (And.intro (OT.out.sets (stA s (.slice o3 s.f.kids.length c3) (.slice o4 s.store.length c4) (.slice o5 s.out.length c5) (.slice o6 s.k.l.length c6)).toList (by rfl)) (And.intro (zab (b:=w.heap.size + 1) (by omega) (stA s (.slice o3 s.f.kids.length c3) (.slice o4 s.store.length c4) (.slice o5 s.out.length c5) (.slice o6 s.k.l.length c6)).toList 0 BE.out) (And.intro ((hl.setsAt (b:=w.heap.size + 1) zw (stA s (.slice o3 s.f.kids.length c3) (.slice o4 s.store.length c4) (.slice o5 s.out.length c5) (.slice o6 s.k.l.length c6)).toList 0).mono' zB) (And.intro ((hr4.sets (b:=w.heap.size + 1) zw (stA s (.slice o3 s.f.kids.length c3) (.slice o4 s.store.length c4) (.slice o5 s.out.length c5) (.slice o6 s.k.l.length c6)).toList 0).mono zB) (And.intro ((hr5.sets (b:=w.heap.size + 1) zw (stA s (.slice o3 s.f.kids.length c3) (.slice o4 s.store.length c4) (.slice o5 s.out.length c5) (.slice o6 s.k.l.length c6)).toList 0).mono zB) ((hk.sets (b:=w.heap.size + 1) zw (stA s (.slice o3 s.f.kids.length c3) (.slice o4 s.store.length c4) (.slice o5 s.out.length c5) (.slice o6 s.k.l.length c6)).toList 0).mono zB))))))
     clear hl hr4 hr5 hk hb zw zB
     go_wp2_with (first | (refine wpList_store_mid (by rfl) 43 _ _ (by rfl) (w.heap.size + 1) 0 (stA s (.slice o3 s.f.kids.length c3) (.slice o4 s.store.length c4) (.slice o5 s.out.length c5) (.slice o6 s.k.l.length c6)) (by rfl) (by rfl) (OT.out.there (by rfl)) (by kernel_rfl) (by simp [Value.oneCell']) ?_) | fail)
     revert HK
     generalize World.setCells _ _ _ _ = WW
     intro HK
     refine zae (by rfl) (by rfl) (by rfl) HK.out.1.range Tryz.underlying43 (by rfl) (by kernel_rfl) rfl ?_
     rw [EE.out.1,EE.out.2]
     exact ⟨_,_,_,_,rfl,⟨.inr HK.out.2.2.1,.inr HK.out.2.2.2.1,.inr HK.out.2.2.2.2.1,.inr HK.out.2.2.2.2.2⟩,HK.out.2.1⟩
   · cases hd:y.d
     · have EE:=y46h (EV.out rfl ⟨rfl,hd⟩)
       clear EV E2 hq
       go_wp2_with (first | (refine wpList_load_mid (by rfl) 43 _ (by rfl) w.heap.size 0 (by rfl) ((stA s (.slice of_ s.f.kids.length cf) (.slice os s.store.length cs) (.slice oo s.out.length co) (.slice ok s.k.l.length ck))).toList _ OA.out.range Tryz.underlying43 (by rfl) (by kernel_rfl) ?_) | fail)
       refine (VC _ (HW.out.later BE.out)).out.mono ?_
       rintro e w3 ⟨v3,v4,v5,v6,rfl,hn,hb⟩
       have hst:=hn.lies (HW.out.later BE.out).lf (HW.out.later BE.out).ls (HW.out.later BE.out).lo (HW.out.later BE.out).lk hb
       have hfv3:v3.oneCell' = true:=zar hst.lf
       have hsv3:v4.oneCell' = true:=(by obtain ⟨_,_,_,_,e,_⟩:=hst.ls;rw [e];rfl)
       have hov3:v5.oneCell' = true:=(by obtain ⟨_,_,_,_,e,_⟩:=hst.lo;rw [e];rfl)
       have hkv3:v6.oneCell' = true:=(by obtain ⟨_,_,e⟩:=hst.lk.val;rw [e];rfl)
       unfold Value.oneCell' at hfv3 hsv3 hov3 hkv3
       have zw:=OT.out.lt
       have zB:=BE.out.size
       clear lOA zOA lOX zOX lO6 zO6
       replace BE:=y46h (BE.out.trans (hb.mono BE.out.size))
       replace OT:=y46h (OT.out.later hb)
       have HK:=y46h (And.intro (OT.out.sets (stA U v3 v4 v5 v6).toList (by rfl)) (And.intro (zab (b:=w.heap.size + 1) (by omega) (stA U v3 v4 v5 v6).toList 0 BE.out) ((hn.sets zw (stA U v3 v4 v5 v6).toList).mono zB)))
       clear hn hb hst zw zB
       go_wp2_with (first | (refine wpList_store_mid (by rfl) 43 _ _ (by rfl) (w.heap.size + 1) 0 (stA U v3 v4 v5 v6) (by rfl) (by rfl) (OT.out.there (by rfl)) (by kernel_rfl) (by simp [Value.oneCell',hfv3,hsv3,hov3,hkv3]) ?_) | fail)
       revert HK
       generalize World.setCells _ _ _ _ = WW
       intro HK
       refine zae (by rfl) (by rfl) (by rfl) HK.out.1.range Tryz.underlying43 (by rfl) (by kernel_rfl) rfl ?_
       rw [EE.out.1,EE.out.2]
       exact ⟨v3,v4,v5,v6,rfl,HK.out.2.2,HK.out.2.1⟩
     · have EE:=y46h (E2.out rfl (by simp [hd]))
       clear EV E2 hq
       go_wp2_with (first | (refine wpList_load_mid (by rfl) 43 _ (by rfl) w.heap.size 0 (by rfl) ((stA s (.slice of_ s.f.kids.length cf) (.slice os s.store.length cs) (.slice oo s.out.length co) (.slice ok s.k.l.length ck))).toList _ OA.out.range Tryz.underlying43 (by rfl) (by kernel_rfl) ?_) | fail)
       refine (AG _ (HW.out.later BE.out)).out.mono ?_
       rintro e w3 ⟨v3,v4,v5,v6,rfl,hl,hr4,hr5,hk,hb⟩
       obtain ⟨o3,c3,rfl⟩:=zal hl.lp
       obtain ⟨o4,c4,rfl⟩:=hr4.row.val
       obtain ⟨o5,c5,rfl⟩:=hr5.row.val
       obtain ⟨o6,c6,rfl⟩:=hk.fr.val
       have zw:=OT.out.lt
       have zB:=BE.out.size
       clear lOA zOA lOX zOX lO6 zO6
       replace BE:=y46h (BE.out.trans (hb.mono BE.out.size))
       replace OT:=y46h (OT.out.later hb)
       have HK:=y46h (And.intro (OT.out.sets (stA s (.slice o3 s.f.kids.length c3) (.slice o4 s.store.length c4) (.slice o5 s.out.length c5) (.slice o6 s.k.l.length c6)).toList (by rfl)) (And.intro (zab (b:=w.heap.size + 1) (by omega) (stA s (.slice o3 s.f.kids.length c3) (.slice o4 s.store.length c4) (.slice o5 s.out.length c5) (.slice o6 s.k.l.length c6)).toList 0 BE.out) (And.intro ((hl.setsAt (b:=w.heap.size + 1) zw (stA s (.slice o3 s.f.kids.length c3) (.slice o4 s.store.length c4) (.slice o5 s.out.length c5) (.slice o6 s.k.l.length c6)).toList 0).mono' zB) (And.intro ((hr4.sets (b:=w.heap.size + 1) zw (stA s (.slice o3 s.f.kids.length c3) (.slice o4 s.store.length c4) (.slice o5 s.out.length c5) (.slice o6 s.k.l.length c6)).toList 0).mono zB) (And.intro ((hr5.sets (b:=w.heap.size + 1) zw (stA s (.slice o3 s.f.kids.length c3) (.slice o4 s.store.length c4) (.slice o5 s.out.length c5) (.slice o6 s.k.l.length c6)).toList 0).mono zB) ((hk.sets (b:=w.heap.size + 1) zw (stA s (.slice o3 s.f.kids.length c3) (.slice o4 s.store.length c4) (.slice o5 s.out.length c5) (.slice o6 s.k.l.length c6)).toList 0).mono zB))))))
       clear hl hr4 hr5 hk hb zw zB
       go_wp2_with (first | (refine wpList_store_mid (by rfl) 43 _ _ (by rfl) (w.heap.size + 1) 0 (stA s (.slice o3 s.f.kids.length c3) (.slice o4 s.store.length c4) (.slice o5 s.out.length c5) (.slice o6 s.k.l.length c6)) (by rfl) (by rfl) (OT.out.there (by rfl)) (by kernel_rfl) (by simp [Value.oneCell']) ?_) | fail)
       revert HK
       generalize World.setCells _ _ _ _ = WW
       intro HK
       refine zae (by rfl) (by rfl) (by rfl) HK.out.1.range Tryz.underlying43 (by rfl) (by kernel_rfl) rfl ?_
       rw [EE.out.1,EE.out.2]
       exact ⟨_,_,_,_,rfl,⟨.inr HK.out.2.2.1,.inr HK.out.2.2.2.1,.inr HK.out.2.2.2.2.1,.inr HK.out.2.2.2.2.2⟩,HK.out.2.1⟩
theorem ziz (s:St) (fv sv ov kv:Value) (id:ByteArray) (w:World) (hS:StW w s fv sv ov kv) (hG:Good s) (hB:StB s) (hid:id.size ≤ maxLen) :
   Calls Tryz.prog 49 #[stV s fv sv ov kv,.string id] w (Told errI s.f fv s sv ov kv (delS s id) (delE s id) w):=by
 have hb1:=hB.f
 have hb2:=hB.ls
 have hb3:=hB.lo
 have hb4:=hB.kl
 have hb5:=hB.ki
 have AG:=fun w' h=>y46h (zdd s fv sv ov kv w' h (by omega) (by omega) (by omega) (by omega) (by omega))
 have GT:=fun w' h=>y46h (zos hG id ▸ zh4 s fv sv ov kv id w' h hG.rs hG.ro (by omega) (by omega) hid)
 have VC:=fun (he:(zaf s id).1.id = id) (hsz:(zaf s id).1.id.size ≤ maxLen ∧ (zaf s id).1.kd.size ≤ maxLen) w' h=>y46h (zdk s fv sv ov kv (zgv (zaf s id).1) w' h hG hsz hb1 (by show (zag (zap s.k (zaf s id).1.id s.r (s.count + 1)).l).length ≤ 10000;rw [he,zcq];omega) (by omega) (by omega))
 have hsz:=y46h (zjg hS id)
 have hid1:=y46h (show (zaf s id).2 = true → (zaf s id).1.id = id from zmw)
 have FT:=fun w'=>y46h (ze6 id w')
 obtain ⟨of_,cf,rfl⟩:=zal hS.lf
 obtain ⟨os,cs,rfl⟩:=hS.ls.val
 obtain ⟨oo,co,rfl⟩:=hS.lo.val
 obtain ⟨ok,ck,rfl⟩:=hS.lk.val
 have HW:=y46h hS
 have E1:=y46h (zt2 (s:=s) (id:=id))
 have E2:=y46h (zt3 (s:=s) (id:=id))
 have EV:=y46h (z17 (s:=s) (id:=id))
 clear hS hG hB hb1 hb2 hb3 hb4 hb5 hid
 generalize delS s id = us at *
 generalize delE s id = ue at *
 generalize zay id = bm at *
 generalize hq:zaf s id = q at *
 obtain ⟨⟨y1,y2,y3,y4,y5,y6,y7,y8,yd⟩,bt⟩:=q
 have OA:=y46h ((Own.new w (stA s (.slice of_ s.f.kids.length cf) (.slice os s.store.length cs) (.slice oo s.out.length co) (.slice ok s.k.l.length ck)) 43).alloc (.cells stZ.toArray 43))
 have OT:=y46h (Own.newAt (w.alloc (.cells (stA s (.slice of_ s.f.kids.length cf) (.slice os s.store.length cs) (.slice oo s.out.length co) (.slice ok s.k.l.length ck)) 43)) stZ.toArray 43 (b:=w.heap.size + 1) (by simp))
 have BE:=y46h (((Below.refl w.heap.size w).alloc (Nat.le_refl _) (.cells (stA s (.slice of_ s.f.kids.length cf) (.slice os s.store.length cs) (.slice oo s.out.length co) (.slice ok s.k.l.length ck)) 43)).alloc (by simp) (.cells stZ.toArray 43))
 have lOA:=OA.out.cell
 have zOA:=OA.out.lt
 go_enter Tryz.func49,Tryz.ntmps49
 go_wp2_with (first | (refine wpList_load_mid (by rfl) 43 _ (by rfl) w.heap.size 0 (by rfl) ((stA s (.slice of_ s.f.kids.length cf) (.slice os s.store.length cs) (.slice oo s.out.length co) (.slice ok s.k.l.length ck))).toList _ OA.out.range Tryz.underlying43 (by rfl) (by kernel_rfl) ?_) | fail)
 refine (GT _ (HW.out.later BE.out)).out.mono ?_
 rintro e w1 ⟨rfl,hb⟩
 clear lOA zOA
 replace OA:=y46h (OA.out.later hb)
 replace OT:=y46h (OT.out.later hb)
 replace BE:=y46h (BE.out.trans (hb.mono BE.out.size))
 clear hb
 have O6:=y46h (Own.new w1 (iA (⟨y1,y2,y3,y4,y5,y6,y7,y8,yd⟩:Itm)) 69)
 have OA0:=OA
 have OT0:=OT
 have BE0:=BE
 replace BE:=y46h (BE.out.alloc (by have:=BE.out.size;omega) (.cells (iA (⟨y1,y2,y3,y4,y5,y6,y7,y8,yd⟩:Itm)) 69))
 replace OA:=y46h (OA.out.alloc (.cells (iA (⟨y1,y2,y3,y4,y5,y6,y7,y8,yd⟩:Itm)) 69))
 replace OT:=y46h (OT.out.alloc (.cells (iA (⟨y1,y2,y3,y4,y5,y6,y7,y8,yd⟩:Itm)) 69))
 have lOA:=OA.out.cell
 have zOA:=OA.out.lt
 go_wp2_with fail
 refine (FT _).out.mono ?_
 rintro e w2 ⟨rfl,rfl⟩
 clear lOA zOA
 have lOA:=OA.out.cell
 have zOA:=OA.out.lt
 have lO6:=O6.out.cell
 have zO6:=O6.out.lt
 cases bm
 · have EE:=y46h (And.intro (E1.out rfl).2 (E1.out rfl).1)
   clear E1 E2 EV hq VC
   go_wp2_with (first | (refine wpList_load_mid (by rfl) 43 _ (by rfl) w.heap.size 0 (by rfl) ((stA s (.slice of_ s.f.kids.length cf) (.slice os s.store.length cs) (.slice oo s.out.length co) (.slice ok s.k.l.length ck))).toList _ OA.out.range Tryz.underlying43 (by rfl) (by kernel_rfl) ?_) | fail)
   refine (AG _ (HW.out.later BE.out)).out.mono ?_
   rintro e w3 ⟨v3,v4,v5,v6,rfl,hl,hr4,hr5,hk,hb⟩
   obtain ⟨o3,c3,rfl⟩:=zal hl.lp
   obtain ⟨o4,c4,rfl⟩:=hr4.row.val
   obtain ⟨o5,c5,rfl⟩:=hr5.row.val
   obtain ⟨o6,c6,rfl⟩:=hk.fr.val
   have zw:=OT.out.lt
   have zB:=BE.out.size
   clear lOA zOA lO6 zO6
   replace BE:=y46h (BE.out.trans (hb.mono BE.out.size))
   replace OT:=y46h (OT.out.later hb)
   have HK:=y46h (And.intro (OT.out.sets (stA s (.slice o3 s.f.kids.length c3) (.slice o4 s.store.length c4) (.slice o5 s.out.length c5) (.slice o6 s.k.l.length c6)).toList (by rfl)) (And.intro (zab (b:=w.heap.size + 1) (by omega) (stA s (.slice o3 s.f.kids.length c3) (.slice o4 s.store.length c4) (.slice o5 s.out.length c5) (.slice o6 s.k.l.length c6)).toList 0 BE.out) (And.intro ((hl.setsAt (b:=w.heap.size + 1) zw (stA s (.slice o3 s.f.kids.length c3) (.slice o4 s.store.length c4) (.slice o5 s.out.length c5) (.slice o6 s.k.l.length c6)).toList 0).mono' zB) (And.intro ((hr4.sets (b:=w.heap.size + 1) zw (stA s (.slice o3 s.f.kids.length c3) (.slice o4 s.store.length c4) (.slice o5 s.out.length c5) (.slice o6 s.k.l.length c6)).toList 0).mono zB) (And.intro ((hr5.sets (b:=w.heap.size + 1) zw (stA s (.slice o3 s.f.kids.length c3) (.slice o4 s.store.length c4) (.slice o5 s.out.length c5) (.slice o6 s.k.l.length c6)).toList 0).mono zB) ((hk.sets (b:=w.heap.size + 1) zw (stA s (.slice o3 s.f.kids.length c3) (.slice o4 s.store.length c4) (.slice o5 s.out.length c5) (.slice o6 s.k.l.length c6)).toList 0).mono zB))))))
   clear hl hr4 hr5 hk hb zw zB
   go_wp2_with (first | (refine wpList_store_mid (by rfl) 43 _ _ (by rfl) (w.heap.size + 1) 0 (stA s (.slice o3 s.f.kids.length c3) (.slice o4 s.store.length c4) (.slice o5 s.out.length c5) (.slice o6 s.k.l.length c6)) (by rfl) (by rfl) (OT.out.there (by rfl)) (by kernel_rfl) (by simp [Value.oneCell']) ?_) | fail)
   revert HK
   generalize World.setCells _ _ _ _ = WW
   intro HK
   refine zae (by rfl) (by rfl) (by rfl) HK.out.1.range Tryz.underlying43 (by rfl) (by kernel_rfl) rfl ?_
   rw [EE.out.1,EE.out.2]
   exact ⟨_,_,_,_,rfl,⟨.inr HK.out.2.2.1,.inr HK.out.2.2.2.1,.inr HK.out.2.2.2.2.1,.inr HK.out.2.2.2.2.2⟩,HK.out.2.1⟩
 · clear E1
   cases bt
   · have EE:=y46h (And.intro (E2.out rfl (by simp)).2 (E2.out rfl (by simp)).1)
     clear EV E2 hq VC
     go_wp2_with (first | (refine wpList_load_mid (by rfl) 43 _ (by rfl) w.heap.size 0 (by rfl) ((stA s (.slice of_ s.f.kids.length cf) (.slice os s.store.length cs) (.slice oo s.out.length co) (.slice ok s.k.l.length ck))).toList _ OA.out.range Tryz.underlying43 (by rfl) (by kernel_rfl) ?_) | fail)
     refine (AG _ (HW.out.later BE.out)).out.mono ?_
     rintro e w3 ⟨v3,v4,v5,v6,rfl,hl,hr4,hr5,hk,hb⟩
     obtain ⟨o3,c3,rfl⟩:=zal hl.lp
     obtain ⟨o4,c4,rfl⟩:=hr4.row.val
     obtain ⟨o5,c5,rfl⟩:=hr5.row.val
     obtain ⟨o6,c6,rfl⟩:=hk.fr.val
     have zw:=OT.out.lt
     have zB:=BE.out.size
     clear lOA zOA lO6 zO6
     replace BE:=y46h (BE.out.trans (hb.mono BE.out.size))
     replace OT:=y46h (OT.out.later hb)
     have HK:=y46h (And.intro (OT.out.sets (stA s (.slice o3 s.f.kids.length c3) (.slice o4 s.store.length c4) (.slice o5 s.out.length c5) (.slice o6 s.k.l.length c6)).toList (by rfl)) (And.intro (zab (b:=w.heap.size + 1) (by omega) (stA s (.slice o3 s.f.kids.length c3) (.slice o4 s.store.length c4) (.slice o5 s.out.length c5) (.slice o6 s.k.l.length c6)).toList 0 BE.out) (And.intro ((hl.setsAt (b:=w.heap.size + 1) zw (stA s (.slice o3 s.f.kids.length c3) (.slice o4 s.store.length c4) (.slice o5 s.out.length c5) (.slice o6 s.k.l.length c6)).toList 0).mono' zB) (And.intro ((hr4.sets (b:=w.heap.size + 1) zw (stA s (.slice o3 s.f.kids.length c3) (.slice o4 s.store.length c4) (.slice o5 s.out.length c5) (.slice o6 s.k.l.length c6)).toList 0).mono zB) (And.intro ((hr5.sets (b:=w.heap.size + 1) zw (stA s (.slice o3 s.f.kids.length c3) (.slice o4 s.store.length c4) (.slice o5 s.out.length c5) (.slice o6 s.k.l.length c6)).toList 0).mono zB) ((hk.sets (b:=w.heap.size + 1) zw (stA s (.slice o3 s.f.kids.length c3) (.slice o4 s.store.length c4) (.slice o5 s.out.length c5) (.slice o6 s.k.l.length c6)).toList 0).mono zB))))))
     clear hl hr4 hr5 hk hb zw zB
     go_wp2_with (first | (refine wpList_store_mid (by rfl) 43 _ _ (by rfl) (w.heap.size + 1) 0 (stA s (.slice o3 s.f.kids.length c3) (.slice o4 s.store.length c4) (.slice o5 s.out.length c5) (.slice o6 s.k.l.length c6)) (by rfl) (by rfl) (OT.out.there (by rfl)) (by kernel_rfl) (by simp [Value.oneCell']) ?_) | fail)
     revert HK
     generalize World.setCells _ _ _ _ = WW
     intro HK
     refine zae (by rfl) (by rfl) (by rfl) HK.out.1.range Tryz.underlying43 (by rfl) (by kernel_rfl) rfl ?_
     rw [EE.out.1,EE.out.2]
     exact ⟨_,_,_,_,rfl,⟨.inr HK.out.2.2.1,.inr HK.out.2.2.2.1,.inr HK.out.2.2.2.2.1,.inr HK.out.2.2.2.2.2⟩,HK.out.2.1⟩
   · cases yd
     · have EE:=y46h (EV.out rfl ⟨rfl,rfl⟩)
       clear EV E2 hq
       replace VC:=VC (hid1.out rfl) hsz.out
       change ∀ w',_ → Hid (Calls Tryz.prog 70 #[stV s (.slice of_ s.f.kids.length cf) (.slice os s.store.length cs) (.slice oo s.out.length co) (.slice ok s.k.l.length ck),iV ⟨y1,y2,y3,y4,y5,y6,y7,y8,true⟩] w' (Told errI s.f (.slice of_ s.f.kids.length cf) s (.slice os s.store.length cs) (.slice oo s.out.length co) (.slice ok s.k.l.length ck) (verS s ⟨y1,y2,y3,y4,y5,y6,y7,y8,true⟩) (verE s) w')) at VC
       change Hid (us = verS s ⟨y1,y2,y3,y4,y5,y6,y7,y8,true⟩ ∧ ue = verE s) at EE
       generalize verS s ⟨y1,y2,y3,y4,y5,y6,y7,y8,true⟩ = U at *
       generalize verE s = VE at *
       clear lOA zOA lO6 zO6
       have OD:=y46h (Own.new w1 (iA (⟨y1,y2,y3,y4,y5,y6,y7,y8,true⟩:Itm)) 69)
       clear O6
       have OA:=y46h (OA0.out.alloc (.cells (iA (⟨y1,y2,y3,y4,y5,y6,y7,y8,true⟩:Itm)) 69))
       have OT:=y46h (OT0.out.alloc (.cells (iA (⟨y1,y2,y3,y4,y5,y6,y7,y8,true⟩:Itm)) 69))
       have BE:=y46h (BE0.out.alloc (by have:=BE0.out.size;omega) (.cells (iA (⟨y1,y2,y3,y4,y5,y6,y7,y8,true⟩:Itm)) 69))
       clear OA0 OT0 BE0
       have lOA:=OA.out.cell
       have zOA:=OA.out.lt
       have lOD:=OD.out.cell
       have zOD:=OD.out.lt
       go_wp2_with (first | (refine wpList_load_mid (by rfl) 43 _ (by rfl) w.heap.size 0 (by rfl) ((stA s (.slice of_ s.f.kids.length cf) (.slice os s.store.length cs) (.slice oo s.out.length co) (.slice ok s.k.l.length ck))).toList _ OA.out.range Tryz.underlying43 (by rfl) (by kernel_rfl) ?_) | fail)
       refine (VC _ (HW.out.later BE.out)).out.mono ?_
       rintro e w3 ⟨v3,v4,v5,v6,rfl,hn,hb⟩
       have hst:=hn.lies (HW.out.later BE.out).lf (HW.out.later BE.out).ls (HW.out.later BE.out).lo (HW.out.later BE.out).lk hb
       have hfv3:v3.oneCell' = true:=zar hst.lf
       have hsv3:v4.oneCell' = true:=(by obtain ⟨_,_,_,_,e,_⟩:=hst.ls;rw [e];rfl)
       have hov3:v5.oneCell' = true:=(by obtain ⟨_,_,_,_,e,_⟩:=hst.lo;rw [e];rfl)
       have hkv3:v6.oneCell' = true:=(by obtain ⟨_,_,e⟩:=hst.lk.val;rw [e];rfl)
       unfold Value.oneCell' at hfv3 hsv3 hov3 hkv3
       have zw:=OT.out.lt
       have zB:=BE.out.size
       clear lOA zOA lOD zOD
       replace BE:=y46h (BE.out.trans (hb.mono BE.out.size))
       replace OT:=y46h (OT.out.later hb)
       have HK:=y46h (And.intro (OT.out.sets (stA U v3 v4 v5 v6).toList (by rfl)) (And.intro (zab (b:=w.heap.size + 1) (by omega) (stA U v3 v4 v5 v6).toList 0 BE.out) ((hn.sets zw (stA U v3 v4 v5 v6).toList).mono zB)))
       clear hn hb hst zw zB
       go_wp2_with (first | (refine wpList_store_mid (by rfl) 43 _ _ (by rfl) (w.heap.size + 1) 0 (stA U v3 v4 v5 v6) (by rfl) (by rfl) (OT.out.there (by rfl)) (by kernel_rfl) (by simp [Value.oneCell',hfv3,hsv3,hov3,hkv3]) ?_) | fail)
       revert HK
       generalize World.setCells _ _ _ _ = WW
       intro HK
       refine zae (by rfl) (by rfl) (by rfl) HK.out.1.range Tryz.underlying43 (by rfl) (by kernel_rfl) rfl ?_
       rw [EE.out.1,EE.out.2]
       exact ⟨v3,v4,v5,v6,rfl,HK.out.2.2,HK.out.2.1⟩
     · have EE:=y46h (And.intro (E2.out rfl (by simp)).2 (E2.out rfl (by simp)).1)
       clear EV E2 hq VC
       go_wp2_with (first | (refine wpList_load_mid (by rfl) 43 _ (by rfl) w.heap.size 0 (by rfl) ((stA s (.slice of_ s.f.kids.length cf) (.slice os s.store.length cs) (.slice oo s.out.length co) (.slice ok s.k.l.length ck))).toList _ OA.out.range Tryz.underlying43 (by rfl) (by kernel_rfl) ?_) | fail)
       refine (AG _ (HW.out.later BE.out)).out.mono ?_
       rintro e w3 ⟨v3,v4,v5,v6,rfl,hl,hr4,hr5,hk,hb⟩
       obtain ⟨o3,c3,rfl⟩:=zal hl.lp
       obtain ⟨o4,c4,rfl⟩:=hr4.row.val
       obtain ⟨o5,c5,rfl⟩:=hr5.row.val
       obtain ⟨o6,c6,rfl⟩:=hk.fr.val
       have zw:=OT.out.lt
       have zB:=BE.out.size
       clear lOA zOA lO6 zO6
       replace BE:=y46h (BE.out.trans (hb.mono BE.out.size))
       replace OT:=y46h (OT.out.later hb)
       have HK:=y46h (And.intro (OT.out.sets (stA s (.slice o3 s.f.kids.length c3) (.slice o4 s.store.length c4) (.slice o5 s.out.length c5) (.slice o6 s.k.l.length c6)).toList (by rfl)) (And.intro (zab (b:=w.heap.size + 1) (by omega) (stA s (.slice o3 s.f.kids.length c3) (.slice o4 s.store.length c4) (.slice o5 s.out.length c5) (.slice o6 s.k.l.length c6)).toList 0 BE.out) (And.intro ((hl.setsAt (b:=w.heap.size + 1) zw (stA s (.slice o3 s.f.kids.length c3) (.slice o4 s.store.length c4) (.slice o5 s.out.length c5) (.slice o6 s.k.l.length c6)).toList 0).mono' zB) (And.intro ((hr4.sets (b:=w.heap.size + 1) zw (stA s (.slice o3 s.f.kids.length c3) (.slice o4 s.store.length c4) (.slice o5 s.out.length c5) (.slice o6 s.k.l.length c6)).toList 0).mono zB) (And.intro ((hr5.sets (b:=w.heap.size + 1) zw (stA s (.slice o3 s.f.kids.length c3) (.slice o4 s.store.length c4) (.slice o5 s.out.length c5) (.slice o6 s.k.l.length c6)).toList 0).mono zB) ((hk.sets (b:=w.heap.size + 1) zw (stA s (.slice o3 s.f.kids.length c3) (.slice o4 s.store.length c4) (.slice o5 s.out.length c5) (.slice o6 s.k.l.length c6)).toList 0).mono zB))))))
       clear hl hr4 hr5 hk hb zw zB
       go_wp2_with (first | (refine wpList_store_mid (by rfl) 43 _ _ (by rfl) (w.heap.size + 1) 0 (stA s (.slice o3 s.f.kids.length c3) (.slice o4 s.store.length c4) (.slice o5 s.out.length c5) (.slice o6 s.k.l.length c6)) (by rfl) (by rfl) (OT.out.there (by rfl)) (by kernel_rfl) (by simp [Value.oneCell']) ?_) | fail)
       revert HK
       generalize World.setCells _ _ _ _ = WW
       intro HK
       refine zae (by rfl) (by rfl) (by rfl) HK.out.1.range Tryz.underlying43 (by rfl) (by kernel_rfl) rfl ?_
       rw [EE.out.1,EE.out.2]
       exact ⟨_,_,_,_,rfl,⟨.inr HK.out.2.2.1,.inr HK.out.2.2.2.1,.inr HK.out.2.2.2.2.1,.inr HK.out.2.2.2.2.2⟩,HK.out.2.1⟩
def za2 (x:Itm):List Fr:=(zah (zap ⟨zad,[]⟩ x.id x.r x.c)).l
theorem zgs (l:List Fr) (id:ByteArray) (j:Nat):beyB ⟨zad,l⟩ id j = if j < 8 then rawF l id j else 0:=by
 unfold beyB
 split
 · have:=zda l id j
   show (if rawF l id j ≤ zad j then 0 else rawF l id j) = _
   unfold zad
   split <;> omega
 · rfl
theorem zxd {A B:List Fr} (h:∀ id j,j < 8 → rawF A id j = rawF B id j):zah ⟨zad,A⟩ = zah ⟨zad,B⟩:=by
 have e:beyB ⟨zad,A⟩ = beyB ⟨zad,B⟩:=by
   funext id j
   rw [zgs,zgs]
   split
   · rename_i hj;exact h id j hj
   · rfl
 have:=zrp e
 unfold zah at *
 simp only at this
 rw [this]
theorem zms (l:List Fr) (id:ByteArray) {j:Nat} (hj:j < 8):rawF (zah ⟨zad,l⟩).l id j = rawF l id j:=by
 have h:=congrFun (congrFun (zhx ⟨zad,l⟩) id) j
 rw [show zah ⟨zad,l⟩ = ⟨zad,(zah ⟨zad,l⟩).l⟩ from rfl,zgs,zgs,if_pos hj,if_pos hj] at h
 exact h
theorem zu7 (x:Itm) (id:ByteArray) {j:Nat} (hj:j < 8):rawF (za2 x) id j = rawF [⟨[x.id],zaw zad x.r x.c⟩] id j:=by
 have h:=zms [⟨[x.id],zaw zad x.r x.c⟩] id hj
 unfold za2 zap
 rw [List.nil_append]
 exact h
theorem zzt (L:List Fr) (x:Itm):zah (zap (zah ⟨zad,L⟩) x.id x.r x.c) = zah ⟨zad,L ++ za2 x⟩:=by
 have e0:zap (zah ⟨zad,L⟩) x.id x.r x.c = ⟨zad,(zah ⟨zad,L⟩).l ++ [⟨[x.id],zaw zad x.r x.c⟩]⟩:=by unfold zap;rfl
 rw [e0]
 refine zxd fun id j hj=>?_
 have e1:=zms L id hj
 have e2:=zu7 x id hj
 rw [zk3,zk3]
 unfold maxV
 rw [e1,e2]
theorem z18 (m:List Itm):∀ (t:St) (L:List Fr),t.k = zah ⟨zad,L⟩ → (m.foldl filP t).k = zah ⟨zad,L ++ m.flatMap za2⟩:=by
 induction m with
 | nil=>intro t L h;simpa using h
 | cons x m ih =>
   intro t L h
   have h1:(filP t x).k = zah ⟨zad,L ++ za2 x⟩:=by
     have e0:(filP t x).k = zah (zap t.k x.id x.r x.c):=rfl
     rw [e0,h]
     exact zzt L x
   rw [List.foldl_cons,ih _ _ h1,List.flatMap_cons,List.append_assoc]
theorem zk2 (x:Itm):(zag (za2 x)).length ≤ 1 ∧ (za2 x).length ≤ 1:=by
 have h:=zjd (zap ⟨zad,[]⟩ x.id x.r x.c)
 have e:(zag (zap ⟨zad,[]⟩ x.id x.r x.c).l).length = 1:=by simp [zap,zag]
 rw [e] at h
 exact h
theorem zjc (l:List Itm):(zag (l.flatMap za2)).length ≤ l.length ∧ (l.flatMap za2).length ≤ l.length:=by
 induction l with
 | nil=>simp [zag]
 | cons x l ih =>
   have h:=zk2 x
   simp only [List.flatMap_cons,zag,List.flatMap_append,List.length_append,List.length_cons] at *
   omega
def filZ (s:St) (f:Pr):St:=⟨s.r,f,(zat behT s.store s.out).filter (fun x=>hasT f x),(zat behT s.store s.out).filter (fun x=>!hasT f x),⟨zad,(zah ⟨zad,(zat behT s.store s.out).flatMap za2⟩).l⟩,s.count,s.clock,s.epoch⟩
abbrev filC (s:St) (f:Pr):St:=⟨(filZ s f).r,(filZ s f).f,(filZ s f).store,(filZ s f).out,(filZ s f).k,(filZ s f).count,(filZ s f).clock,(filZ s f).epoch + 1⟩
theorem zy5 {s:St} (h:Good s) (f:Pr):filF s f = filC s f:=by
 have F:=zq7 h f
 have hr:zao (zat behT s.store s.out):=zej s.out h.rs
 have e1:(filF s f).store = (filZ s f).store:=zid F.rs (zbh hr) fun i=>by
   rw [F.ms];simp [filZ,List.mem_filter]
 have e2:(filF s f).out = (filZ s f).out:=zid F.ro (zbh hr) fun i=>by
   rw [F.mo];simp [filZ,List.mem_filter]
 have e3:(filF s f).k = (filZ s f).k:=by
   unfold filF
   rw [z18 _ (filB s f) [] rfl]
   rfl
 calc filF s f = ⟨(filF s f).r,(filF s f).f,(filF s f).store,(filF s f).out,(filF s f).k,(filF s f).count,(filF s f).clock,(filF s f).epoch⟩:=rfl
   _ = filC s f:=by rw [e1,e2,e3,F.r,F.f,F.c,F.t,F.e];rfl
structure KL (w:World) (base:Nat) (o:List Fr) (U:Nat → Value) (Lv:Value):Prop where
 row:w.ownsRow base 105 9 Lv o.length (frCs U 0 o)
 ids:∀ i f,o[i]? = some f → OwnT w base f.ids (U i)
section
variable {w w':World} {base:Nat} {o:List Fr} {U:Nat → Value} {Lv:Value}
theorem KL.nil (w:World) (base:Nat) (U:Nat → Value):KL w base [] U (.slice none 0 0):=⟨World.ownsRow_nil _ _ _ _,fun i f h=>by simp at h⟩
theorem KL.later (h:KL w base o U Lv) (hb:Below w.heap.size w w'):KL w' base o U Lv:=⟨zau h.row hb,fun i f hf=>(h.ids i f hf).later hb⟩
theorem KL.kept {n size:Nat} {e:TypeId} {v:Value} {xs:List Value} {b0:Nat} (h:KL w base o U Lv) (hv:w.ownsRow b0 e size v n xs) (h1:105 ≠ e) (h2:9 ≠ e) (hg:w.grownBy w' v.ownBlock):KL w' base o U Lv :=
 ⟨h.row.kept hg (zby h.row hv h1),fun i f hf=>World.ownsRow.kept (h.ids i f hf) hg (zby (h.ids i f hf) hv h2)⟩
theorem KL.setLow (h:KL w base o U Lv) {a:Addr} (ha:a.block < base) (u:Value):KL (w.setCell a u) base o U Lv :=
 ⟨ownsRow_setCell_below h.row ha u,fun i f hf=>ownsRow_setCell_below (h.ids i f hf) ha u⟩
theorem KL.fr (h:KL w base o U Lv) (hok:∀ f ∈ o,∀ s ∈ f.ids,s.size ≤ maxLen):FrW w o Lv :=
 zs4 h.row fun i f hf=>(h.ids i f hf).tx (hok f (List.mem_of_getElem? hf))
def catU (n:Nat) (U V:Nat → Value):Nat → Value:=fun i=>if i < n then U i else V (i - n)
theorem zg3 {U V:Nat → Value}:∀ (l:List Fr) (s t:Nat),(∀ i,i < l.length → U (s + i) = V (t + i)) → frCs U s l = frCs V t l
 | [],_,_,_=>rfl
 | f :: l,s,t,h=>by
   rw [frCs,frCs,zg3 l (s + 1) (t + 1) (fun i hi=>by have:=h (i + 1) (by simp;omega);rwa [show s + (i + 1) = s + 1 + i by omega,show t + (i + 1) = t + 1 + i by omega] at this)]
   have:=h 0 (by simp)
   rw [Nat.add_zero,Nat.add_zero] at this
   rw [this]
theorem zwi (U V:Nat → Value) (o m:List Fr):frCs (catU o.length U V) 0 (o ++ m) = frCs U 0 o ++ frCs V 0 m:=by
 rw [zg0]
 congr 1
 · exact zg3 o 0 0 fun i hi=>by unfold catU;rw [if_pos (by omega)]
 · exact zg3 m _ 0 fun i hi=>by unfold catU;rw [if_neg (by omega)];congr 1;omega
theorem zmd {V:Nat → Value}:∀ (l:List Fr) (s:Nat),(∀ i,i < l.length → (V (s + i)).oneCell' = true) → ∀ u ∈ frCs V s l,u.oneCell' = true
 | [],_,_,u,hu=>by simp [frCs] at hu
 | f :: l,s,h,u,hu=>by
   rw [frCs,List.mem_append] at hu
   rcases hu with hu | hu
   · simp only [fc,List.mem_cons,List.not_mem_nil,or_false] at hu
     rcases hu with rfl | rfl | rfl | rfl | rfl | rfl | rfl | rfl | rfl
     · exact h 0 (by simp)
     all_goals rfl
   · exact zmd l (s + 1) (fun i hi=>by have:=h (i + 1) (by simp;omega);rwa [show s + (i + 1) = s + 1 + i by omega] at this) u hu
theorem KL.app {v9 pv:Value} {m:List Fr} {V:Nat → Value} {B8:Nat} (h:KL w base o U Lv) (hp:PK w B8 m V pv) (hB:base ≤ B8) (hown:w'.ownsRow base 105 9 v9 (o.length + m.length) (frCs U 0 o ++ frCs V 0 m)) (hg:w.grownBy w' Lv.ownBlock):KL w' base (o ++ m) (catU o.length U V) v9:=by
 refine ⟨by rw [zwi,List.length_append];exact hown,fun i f hf=>?_⟩
 unfold catU
 split
 · rename_i hi
   rw [List.getElem?_append_left hi] at hf
   exact World.ownsRow.kept (h.ids i f hf) hg (zby (h.ids i f hf) h.row zft)
 · rename_i hi
   rw [List.getElem?_append_right (by omega)] at hf
   have hm:=(hp.ids _ f hf).mono hB
   exact World.ownsRow.kept hm hg (zby hm h.row zft)
theorem zi4 (ty:TypeId) {v pv:Value} {m:List Fr} {V:Nat → Value} {B8:Nat} (h:KL w base o U v) (hp:PK w B8 m V pv) (hn:o.length + m.length ≤ 30000) (hbase:base ≤ w.heap.size) :
   ∃ v' w',(Builtin.append_ #[29,29] ty #[v,pv]).run Tryz.prog w = .ok v' w' ∧ w'.ownsRow base 105 9 v' (o.length + m.length) (frCs U 0 o ++ frCs V 0 m) ∧ w.grownBy w' v.ownBlock:=by
 obtain ⟨j0,hj,hy0,hy1,hy2⟩:=info_parts zcs
 obtain ⟨oa,cap,g,rfl,h1,h2,hg⟩:=zan hp.row
 obtain ⟨v',w',hr,ho,hgr⟩:=zcp 29 ty 105 j0 _ 9 88 Tryz.underlying29 hj hy0 hy1 hy2 rfl (by omega) h.row oa m.length cap (frCs V 0 m) (zcy V 0 m) (fun h0=>⟨g,0,(hg h0).1,fun j u hu=>by
   obtain ⟨rfl,_⟩:=hg h0
   have hj:=(List.getElem?_eq_some_iff.1 hu).1
   rw [zcy] at hj
   have hp':m[j / 9]? = some m[j / 9]:=List.getElem?_eq_getElem (by omega)
   have e:j = j / 9 * 9 + j % 9:=by omega
   rw [e,zcl V 0 m _ _ hp' _ (by omega),Nat.zero_add] at hu
   have:=hp.at hp' _ _ hu
   rw [show j / 9 * 9 + j % 9 = j by omega] at this
   rw [Nat.zero_add]
   exact this⟩) (zmd m 0 fun i hi=>by
     rw [Nat.zero_add]
     obtain ⟨_,_,e⟩:=(hp.ids i _ (List.getElem?_eq_getElem hi)).val
     rw [e];rfl) hn (by omega) hbase
 exact ⟨v',w',hr,ho,hgr⟩
end
theorem zvi {w w':World} {l:List Itm} {v Lv:Value} {bk:Nat} (h:Row 8 ic w l v) (hk:Own w bk (knA zad Lv) 31) (hg:w.grownBy w' (some bk)):Row 8 ic w' l v:=by
 obtain ⟨oa,cap,b,o,e,h⟩:=h
 refine ⟨oa,cap,b,o,e,h.len,h.max,fun h0=>⟨(h.at0 h0).1,Nat.lt_of_lt_of_le (h.at0 h0).2 hg.size⟩,fun k i hi j u hu=>?_,h.ok⟩
 have hlt:=(h.at0 (by have:=zbs hi;omega)).2
 have hne:b ≠ bk:=by
   intro e
   subst e
   have h0:=h.cell k i hi 0 (.string i.id) rfl
   have h1:=h.cell k i hi 1 (.int .i64 i.r) rfl
   rw [hk.cell] at h0 h1
   have hlt':=(Array.getElem?_eq_some_iff.1 h1).1
   rw [Nat.add_zero] at h0
   generalize o + k * 8 = q at *
   simp only [List.size_toArray,List.length_cons,List.length_nil] at hlt'
   rcases (by omega:q = 0 ∨ q = 1 ∨ q = 2 ∨ q = 3 ∨ q = 4 ∨ q = 5 ∨ q = 6 ∨ q = 7) with rfl | rfl | rfl | rfl | rfl | rfl | rfl | rfl <;> simp at h0
 rw [ziq hg hlt (by simpa using hne)]
 exact h.cell k i hi j u hu
structure FlS (wb:World) (bk:Nat) (l:List Itm) (f:Pr) (k:Nat) (sv ov Lv:Value) (wr:World):Prop where
 gr:wb.grownBy wr (some bk)
 kn:Own wr bk (knA zad Lv) 31
 kl:∃ U,KL wr wb.heap.size ((l.take k).flatMap za2) U Lv
 s:OwnI wr wb.heap.size ((l.take k).filter fun x=>hasT f x) sv
 o:OwnI wr wb.heap.size ((l.take k).filter fun x=>!hasT f x) ov
 ap:sv.ownBlock = none ∨ sv.ownBlock ≠ ov.ownBlock
def z1q (wb:World) (bk:Nat) (l:List Itm) (f:Pr) (n:Nat) (sv ov kv:Value) (wr:World):Prop :=
 ∃ (k:Nat) (Lv:Value),k ≤ n ∧ kv = .int .i64 k ∧ Hid (FlS wb bk l f k sv ov Lv wr)
structure FlM (wb:World) (bk:Nat) (l:List Itm) (f:Pr) (k:Nat) (x:Itm) (I:Nat) (sv ov Lv:Value) (W:World):Prop where
 gr:wb.grownBy W (some bk)
 kn:Own W bk (knA zad Lv) 31
 kl:∃ U,KL W wb.heap.size ((l.take (k + 1)).flatMap za2) U Lv
 s:OwnI W wb.heap.size ((l.take k).filter fun x=>hasT f x) sv
 o:OwnI W wb.heap.size ((l.take k).filter fun x=>!hasT f x) ov
 ap:sv.ownBlock = none ∨ sv.ownBlock ≠ ov.ownBlock
 i:Own W I (iA x) 69
theorem zd5 {wb w w':World} {bk:Nat} {r:Option Nat} (h:wb.grownBy w (some bk)) (g:w.grownBy w' r) (hr:∀ k,r = some k → wb.heap.size ≤ k):wb.grownBy w' (some bk) :=
 ⟨g.os.trans h.os,g.tape.trans h.tape,g.output.trans h.output,Nat.le_trans h.size g.size,fun b hb hne=>(g.block b (Nat.lt_of_lt_of_le hb h.size) (fun e=>by have:=hr b e.symm;omega)).trans (h.block b hb hne)⟩
theorem zze {wb w:World} {bk:Nat} (h:wb.grownBy w (some bk)) (q:Nat) (u:Value):wb.grownBy (w.setCell ⟨bk,q,none⟩ u) (some bk):=by
 refine ⟨h.os,h.tape,h.output,by simpa [World.setCell] using h.size,fun b hb hne=>?_⟩
 rw [Below.heap_setCell _ _ _ _ (by intro e;exact hne (by rw [e]))]
 exact h.block b hb hne
theorem zgr {w w':World} (hb:Below w.heap.size w w'):w.grownBy w' none:=⟨hb.os,hb.tape,hb.output,hb.size,fun b h _=>hb.block b h⟩
theorem know_ne_frag:31 ≠ 105:=by decide
theorem know_ne_item:31 ≠ 69:=by decide
theorem item_ne_frag:69 ≠ 105:=by decide
theorem zij:9 ≠ 69:=by decide
theorem zr5 (v9 Lv:Value):(knA zad Lv).setIfInBounds 8 v9 = knA zad v9:=by simp
section
variable {wb wr w7 w9 W W':World} {bk k I:Nat} {l:List Itm} {f:Pr} {x:Itm} {sv ov Lv v9:Value}
theorem FlS.mid {U V:Nat → Value} {pv:Value} {B8:Nat} (h:FlS wb bk l f k sv ov Lv wr) (hx:l[k]? = some x) (hbk:bk < wb.heap.size) (hb:Below (wr.heap.size + 1) (wr.alloc (.cells (iA x) 69)).drew w7) (hk:KL wr wb.heap.size ((l.take k).flatMap za2) U Lv) (hp:PK w7 B8 (za2 x) V pv) (hB:wb.heap.size ≤ B8)
   (hown:w9.ownsRow wb.heap.size 105 9 v9 (((l.take k).flatMap za2).length + (za2 x).length) (frCs U 0 ((l.take k).flatMap za2) ++ frCs V 0 (za2 x))) (hg:w7.grownBy w9 Lv.ownBlock) :
   FlM wb bk l f k x wr.heap.size sv ov v9 (w9.setCell ⟨bk,8,none⟩ v9):=by
 have hB7:Below wr.heap.size wr w7:=(((Below.refl _ _).alloc (Nat.le_refl _) (.cells (iA x) 69)).drew).trans (hb.mono (by omega))
 have hs:=h.gr.size
 have k7:=hk.later hB7
 have e:(l.take (k + 1)).flatMap za2 = (l.take k).flatMap za2 ++ za2 x:=by rw [zd2 hx];simp
 have hlow:(⟨bk,8,none⟩:Addr).block < wb.heap.size:=hbk
 have i7:Own w7 wr.heap.size (iA x) 69:=(Own.new wr (iA x) 69).drew.later (by simpa using hb)
 refine ⟨zze (zd5 (zd5 h.gr (zgr hB7) (by simp)) hg (fun k hk'=>(k7.row.lt k hk').1)) 8 v9,?_,?_,?_,?_,h.ap,?_⟩
 · have:=(((h.kn.later hB7).grown hg (za8 k7.row (h.kn.later hB7) know_ne_frag.symm)).set 8 v9)
   rw [zr5] at this
   exact this
 · rw [e]
   exact ⟨_,(k7.app hp hB hown hg).setLow hlow v9⟩
 · exact ownsRow_setCell_below (World.ownsRow.kept (h.s.later hB7) hg (zby (h.s.later hB7) k7.row item_ne_frag)) hlow v9
 · exact ownsRow_setCell_below (World.ownsRow.kept (h.o.later hB7) hg (zby (h.o.later hB7) k7.row item_ne_frag)) hlow v9
 · exact (i7.grown hg (za8 k7.row i7 item_ne_frag.symm)).setFar _ _ (by show wr.heap.size ≠ bk;omega)
theorem FlM.later (h:FlM wb bk l f k x I sv ov Lv W) (hb:Below W.heap.size W W'):FlM wb bk l f k x I sv ov Lv W' :=
 ⟨zd5 h.gr (zgr hb) (by simp),h.kn.later hb,by obtain ⟨U,hk⟩:=h.kl;exact ⟨U,hk.later hb⟩,h.s.later hb,h.o.later hb,h.ap,h.i.later hb⟩
theorem FlM.inStore {g cap m:Nat} (h:FlM wb bk l f k x I sv ov Lv W) (hx:l[k]? = some x) (hh:hasT f x = true) (hm:((l.take k).filter fun x=>hasT f x).length = m) (ho:W'.ownsRow wb.heap.size 69 8 (.slice (some ⟨g,0,none⟩) (m + 1) cap) (m + 1) (zas ((l.take k).filter fun x=>hasT f x) ++ ic x)) (hg:(W.alloc (.cells (iA x) 69)).grownBy W' sv.ownBlock) (hn:sv.ownBlock = some g ∨ g = W.heap.size + 1) :
   FlS wb bk l f (k + 1) (.slice (some ⟨g,0,none⟩) (m + 1) cap) ov Lv W':=by
 have hB:Below W.heap.size W (W.alloc (.cells (iA x) 69)):=(Below.refl _ _).alloc (Nat.le_refl _) _
 have s':=h.s.later hB
 have o':=h.o.later hB
 have k':=h.kn.later hB
 have e1:((l.take (k + 1)).filter fun x=>hasT f x) = ((l.take k).filter fun x=>hasT f x) ++ [x]:=by rw [zd2 hx,List.filter_append];simp [hh]
 have e2:((l.take (k + 1)).filter fun x=>!hasT f x) = ((l.take k).filter fun x=>!hasT f x):=by rw [zd2 hx,List.filter_append];simp [hh]
 have hap:ov.ownBlock = none ∨ ov.ownBlock ≠ sv.ownBlock:=by
   rcases h.ap with e | e
   · rw [e]
     cases hq:ov.ownBlock with
     | none=>exact .inl rfl
     | some b=>exact .inr (by simp)
   · exact .inr (Ne.symm e)
 refine ⟨zd5 (zd5 h.gr (zgr hB) (by simp)) hg (fun k hk=>(World.ownsRow.lt s' k hk).1),k'.grown hg (za8 s' k' know_ne_item.symm),?_,?_,?_,?_⟩
 · obtain ⟨U,hk⟩:=h.kl
   exact ⟨U,(hk.later hB).kept s' item_ne_frag.symm zij hg⟩
 · rw [e1]
   exact OwnI.push ho (by rw [hm])
 · rw [e2]
   exact World.ownsRow.kept o' hg hap
 · right
   show some g ≠ ov.ownBlock
   rcases hn with hn | hn
   · rw [← hn]
     rcases hap with e | e
     · rw [e,hn];simp
     · exact Ne.symm e
   · intro e
     have:=(World.ownsRow.lt h.o g e.symm).2
     omega
theorem FlM.inOut {g cap m:Nat} (h:FlM wb bk l f k x I sv ov Lv W) (hx:l[k]? = some x) (hh:hasT f x = false) (hm:((l.take k).filter fun x=>!hasT f x).length = m) (ho:W'.ownsRow wb.heap.size 69 8 (.slice (some ⟨g,0,none⟩) (m + 1) cap) (m + 1) (zas ((l.take k).filter fun x=>!hasT f x) ++ ic x)) (hg:(W.alloc (.cells (iA x) 69)).grownBy W' ov.ownBlock) (hn:ov.ownBlock = some g ∨ g = W.heap.size + 1) :
   FlS wb bk l f (k + 1) sv (.slice (some ⟨g,0,none⟩) (m + 1) cap) Lv W':=by
 have hB:Below W.heap.size W (W.alloc (.cells (iA x) 69)):=(Below.refl _ _).alloc (Nat.le_refl _) _
 have s':=h.s.later hB
 have o':=h.o.later hB
 have k':=h.kn.later hB
 have e1:((l.take (k + 1)).filter fun x=>hasT f x) = ((l.take k).filter fun x=>hasT f x):=by rw [zd2 hx,List.filter_append];simp [hh]
 have e2:((l.take (k + 1)).filter fun x=>!hasT f x) = ((l.take k).filter fun x=>!hasT f x) ++ [x]:=by rw [zd2 hx,List.filter_append];simp [hh]
 refine ⟨zd5 (zd5 h.gr (zgr hB) (by simp)) hg (fun k hk=>(World.ownsRow.lt o' k hk).1),k'.grown hg (za8 o' k' know_ne_item.symm),?_,?_,?_,?_⟩
 · obtain ⟨U,hk⟩:=h.kl
   exact ⟨U,(hk.later hB).kept o' item_ne_frag.symm zij hg⟩
 · rw [e1]
   exact World.ownsRow.kept s' hg h.ap
 · rw [e2]
   exact OwnI.push ho (by rw [hm])
 · rcases h.ap with e | e
   · exact .inl e
   · right
     show sv.ownBlock ≠ some g
     rcases hn with hn | hn
     · rw [← hn];exact e
     · intro e'
       have:=(World.ownsRow.lt h.s g e').2
       omega
end
theorem z0r (a0 a1 a2 a3 a4 a5 a6 a7:Value) (oa:Option Addr) (n c:Nat) (w:World):(Instr.field 31 (.agg #[a0,a1,a2,a3,a4,a5,a6,a7,.slice oa n c]) 1).run Tryz.prog w = .ok (.slice oa n c) w:=by
 simp [Instr.field,run_underlying Tryz.underlying31,part,asAgg,Result.andThen]
theorem zvo (s:St) (fv sv ov kv v:Value) (A:Nat → Int) (l:List Fr) :
   (((((((((stA s fv sv ov kv).setIfInBounds 8 (.int .i64 (A 0))).setIfInBounds 9 (.int .i64 (A 1))).setIfInBounds 10 (.int .i64 (A 2))).setIfInBounds 11 (.int .i64 (A 3))).setIfInBounds 12 (.int .i64 (A 4))).setIfInBounds 13 (.int .i64 (A 5))).setIfInBounds 14 (.int .i64 (A 6))).setIfInBounds 15 (.int .i64 (A 7))).setIfInBounds 16 v = stA (⟨s.r,s.f,s.store,s.out,⟨A,l⟩,s.count,s.clock,s.epoch⟩:St) fv sv ov v:=by simp
theorem zu5 {X:World} {b:Nat} {s:St} {fv sv ov kv:Value} (h:Own X b (stA s fv sv ov kv) 43) (A:Nat → Int) (l:List Fr) (v:Value) :
   Own (X.setCells b 8 [.int .i64 (A 0),.int .i64 (A 1),.int .i64 (A 2),.int .i64 (A 3),.int .i64 (A 4),.int .i64 (A 5),.int .i64 (A 6),.int .i64 (A 7),v]) b (stA (⟨s.r,s.f,s.store,s.out,⟨A,l⟩,s.count,s.clock,s.epoch⟩:St) fv sv ov v) 43:=by
 have h2:=((((((((h.set 8 (.int .i64 (A 0))).set 9 (.int .i64 (A 1))).set 10 (.int .i64 (A 2))).set 11 (.int .i64 (A 3))).set 12 (.int .i64 (A 4))).set 13 (.int .i64 (A 5))).set 14 (.int .i64 (A 6))).set 15 (.int .i64 (A 7))).set 16 v
 rw [zvo s fv sv ov kv v A l] at h2
 generalize stA (⟨s.r,s.f,s.store,s.out,⟨A,l⟩,s.count,s.clock,s.epoch⟩:St) fv sv ov v = cA at *
 exact h2
theorem zqq {P:Program} {ops:Array Oper} {Q:Exit → Act → World → Prop} {md:Region.Mode} {S T:World → Prop} {D:Nat → Bool} {i:Nat} {o:Oper} {n:Nat} {l:Array Bool} {a:Act} {w:World} (hr:Region.ready md ops l = [i]) (ho:ops[i]? = some o) (hg:o.guard = none)
   (ty:TypeId) (x y:Operand) (hop:o.op = .store ty x y) (b off:Nat) (cells:Array Value) (hx:a.eval x = .pointer (some ⟨b,off,none⟩)) (hy:a.eval y = .agg cells)
   (ht:w.there b off cells.size) (hi:(P.info? ty).map (·.size) = some cells.size) (h1:cells.all (·.oneCell') = true)
   (hS:D i = false → S (w.setCells b off cells.toList)) (hT:T (w.setCells b off cells.toList)) (h:T (w.setCells b off cells.toList) → zcn P md ops Q S T D n (l.setIfInBounds i true) (a.put o.dst undef) (w.setCells b off cells.toList)):zcn P md ops Q S T D (n + 1) l a w :=
 za7 hr ho fun K hK=>by
   rw [if_pos (by simp [Region.wanted,hg])]
   exact wp_store_mid ty x y hop b off cells hx hy ht hi h1 (hK.out _ _ hS hT fun _ h2=>h h2)
end Go.Proofs.YthnllikalobmeaaGreat
namespace Go.Proofs.YthnllikalobmeaaGreat
set_option linter.unusedVariables false
set_option linter.unusedSimpArgs false
set_option maxRecDepth 100000
set_option maxHeartbeats 8000000
open Go.RowKit
def lenV:Value → Nat
 | .slice _ n _=>n
 | _=>0
theorem zr7 (st r c st' r' c':Int):cmpV st r c st' r' c' = -1 ∨ cmpV st r c st' r' c' = 0 ∨ cmpV st r c st' r' c' = 1:=by
 unfold cmpV orI cmpI
 repeat' split
 all_goals simp
theorem zq5 (a b:Itm):decide (0 < cmpT a b) = behT a b:=by
 unfold behT cmpT
 rcases zr7 a.st a.r a.c b.st b.r b.c with h | h | h <;> rw [h] <;> decide
theorem zr6 (a b:Itm) (w:World) :
   Calls Tryz.prog 144 #[iV a,iV b] w fun e w'=>e = .returned (.int .i64 (cmpT a b)) ∧ Below w.heap.size w w' :=
 zm3 a.id a.r a.c a.st a.kd a.num a.x a.y a.d b.id b.r b.c b.st b.kd b.num b.x b.y b.d w
abbrev At8 (w:World) (b o:Nat) (i:Itm):Prop :=
 w.cell? ⟨b,o,none⟩ = some (.string i.id) ∧ w.cell? ⟨b,o + 1,none⟩ = some (.int .i64 i.r) ∧ w.cell? ⟨b,o + 2,none⟩ = some (.int .i64 i.c) ∧ w.cell? ⟨b,o + 3,none⟩ = some (.int .i64 i.st) ∧ w.cell? ⟨b,o + 4,none⟩ = some (.string i.kd) ∧ w.cell? ⟨b,o + 5,none⟩ = some (.int .i64 i.num) ∧ w.cell? ⟨b,o + 6,none⟩ = some (.complex .f64 i.x i.y) ∧ w.cell? ⟨b,o + 7,none⟩ = some (.bool i.d)
theorem At8.later {w w':World} {b o:Nat} {i:Itm} (h:At8 w b o i) (hlt:b < w.heap.size) (hb:Below w.heap.size w w'):At8 w' b o i:=by
 obtain ⟨h0,h1,h2,h3,h4,h5,h6,h7⟩:=h
 have e:∀ j,w'.cell? ⟨b,j,none⟩ = w.cell? ⟨b,j,none⟩:=fun j=>hb.cell (p:=⟨b,j,none⟩) hlt
 exact ⟨(e _).trans h0,(e _).trans h1,(e _).trans h2,(e _).trans h3,(e _).trans h4,(e _).trans h5,(e _).trans h6,(e _).trans h7⟩
theorem zpv {w:World} {i:Itm} {l:List Itm} {v:Value} (h:Row 8 ic w (i :: l) v):∃ b o cap,v = .slice (some ⟨b,o,none⟩) (l.length + 1) cap ∧ l.length + 1 ≤ cap ∧ cap ≤ maxLen ∧ b < w.heap.size ∧ At8 w b o i ∧ Row 8 ic w (i :: l) (.slice (some ⟨b,o,none⟩) (l.length + 1) cap):=by
 have h':=h
 obtain ⟨oa,cap,b,o,rfl,h⟩:=h
 obtain ⟨rfl,hb⟩:=h.at0 (by simp)
 refine ⟨b,o,cap,rfl,h.len,h.max,hb,?_,h'⟩
 have:=zav (w:=w) (fun j u hu=>h.cell 0 i rfl j u hu)
 simpa using this
theorem zxu {w:World} {i:Itm} {l:List Itm} {b o n cap:Nat} (h:Row 8 ic w (i :: l) (.slice (some ⟨b,o,none⟩) n cap)) (hn:n = l.length + 1):Row 8 ic w l (.slice (some ⟨b,o + 8,none⟩) l.length (cap - 1)):=by
 have:=h.slice 1 (by simp)
 subst hn
 simpa [zfd] using this
theorem zxt {w:World} {i:Itm} {l:List Itm} {b o n cap:Nat} (h:Row 8 ic w (i :: l) (.slice (some ⟨b,o,none⟩) n cap)) (hn:n = l.length + 1) (hc:cap = 1):Row 8 ic w l (.slice (some ⟨b,o,none⟩) l.length 0):=by
 subst hn hc
 have e:=h.none
 have:l.length = 0:=by
   obtain ⟨_,_,_,_,e2,h2⟩:=h
   cases e2
   have:=h2.len;simp at this;rw [this];rfl
 rw [this]
 simpa using e
structure BothI (f:Itm → Itm → Bool) (w:World) (R la lb D:List Itm) (wr:World) (v:Value):Prop where
 own:OwnI wr w.heap.size D v
 eq:D ++ mrgI f la lb = R
 len:la.length + lb.length + D.length ≤ 2000
 bel:Below w.heap.size w wr
def zz3 (f:Itm → Itm → Bool) (w:World) (R:List Itm) (a b v:Value) (wr:World):Prop :=
 ∃ la lb D:List Itm,Row 8 ic w la a ∧ Row 8 ic w lb b ∧ Hid (BothI f w R la lb D wr v)
theorem zea {w:World} {i:Itm} {l:List Itm} {b o n cap:Nat} (h:Row 8 ic w (i :: l) (.slice (some ⟨b,o,none⟩) n cap)) (hn:n = l.length + 1):Row 8 ic w l (.slice (if cap = 1 then some ⟨b,o,none⟩ else some ⟨b,o + 8,none⟩) l.length (cap - 1)):=by
 split
 · rename_i hc
   have:=zxt h hn hc
   rw [show cap - 1 = 0 by omega]
   exact this
 · exact zxu h hn
theorem zew {f:Itm → Itm → Bool} {w w1 w2:World} {R la lb la0 lb0 D:List Itm} {v v1:Value} {Z:Itm} (hI:BothI f w R la0 lb0 D w1 v) (ho:OwnI w2 w.heap.size (D ++ [Z]) v1) (hb:Below w.heap.size w w2) (he:mrgI f la0 lb0 = Z :: mrgI f la lb) (hl:la.length + lb.length + 1 ≤ la0.length + lb0.length):BothI f w R la lb (D ++ [Z]) w2 v1 :=
 ⟨ho,by rw [List.append_assoc,← hI.eq,he];rfl,by have:=hI.len;rw [List.length_append];simp only [List.length_cons,List.length_nil];omega,hb⟩
theorem zlp (l m:List Itm) (v v':Value) (w:World) (hR:Row 8 ic w l v) (hM:Row 8 ic w m v') (hr:zao l) (hm:zao m) (h1:l.length ≤ 1000) (h2:m.length ≤ 1000) :
   Calls Tryz.prog 98 #[v,v'] w fun e w'=>∃ v2,e = .returned v2 ∧ Row 8 ic w' (zat behT l m) v2 ∧ Below w.heap.size w w':=by
 obtain ⟨i0,hi,hz0,hz1,hz2⟩:=info_parts zca
 have CS:=fun a b w=>y46h (zkd a b w)
 have CT:=fun a b w=>y46h (zr6 a b w)
 have HA:=y46h hR
 have HB:=y46h hM
 have HO:=y46h (show ∀ i ∈ mrgI behT l m,i.id.size ≤ maxLen ∧ i.kd.size ≤ maxLen from fun i hi=>by
   rcases zis (Nat.le_refl _) hi with h | h
   · exact hR.oks i h
   · exact hM.oks i h)
 rw [← zwy hr hm]
 obtain ⟨oa,cap,rfl⟩:=hR.val
 obtain ⟨oa',cap',rfl⟩:=hM.val
 obtain ⟨w',hrun,hown,hgr⟩:=run_makeSlice_owned (P:=Tryz.prog) w w.heap.size 41 69 i0 _ 8 Tryz.underlying41 hi hz0 hz1 .i64 .i64 (l.length + m.length) (by omega) (by rw [hz2];omega) (by unfold maxLen;omega) (Nat.le_refl _)
 rw [Int.natCast_add] at hrun
 have HI:=y46h (show BothI behT w (mrgI behT l m) l m [] w' _ from ⟨hown,rfl,by simp;omega,(Below.refl _ _).grown hgr (Nat.le_refl _) (fun k hk=>by cases hk)⟩)
 clear hown hgr hR hM hr hm
 generalize mrgI behT l m = R at *
 go_enter Tryz.func98,Tryz.ntmps98
 go_wp2_with fail
 go_loopw [0,1,5] (fun a b v wr=>zz3 behT w R a b v wr) (fun a b _ _=>lenV a + lenV b)
 case atStart=>exact ⟨l,m,[],HA.out,HB.out,HI.out⟩
 case round =>
   clear HI HA HB hrun
   obtain ⟨la,lb,D,ha,hb,HI⟩:=hrel
   obtain ⟨ov,cv,e⟩:=HI.out.own.len
   subst e
   by_cases hex:la = [] ∨ lb = []
   · have E:=y46h (show (D ++ la) ++ lb = R by
       have:=HI.out.eq
       rcases hex with h | h
       · subst h;rw [zc3] at this;simpa using this
       · subst h;rw [zfz] at this;simpa using this)
     obtain ⟨oA,cA,rfl⟩:=ha.val
     obtain ⟨oB,cB,rfl⟩:=hb.val
     have HL:=y46h HI.out.len
     have RA:=y46h ha
     have RB:=y46h hb
     obtain ⟨DE,hDE⟩:∃ DE,DE = D ++ la:=⟨_,rfl⟩
     have HDL:=y46h (show DE.length + lb.length ≤ 2000 by rw [hDE,List.length_append];have:=HL.out;omega)
     have HAP:=y46h (fun ty=>zbi ty HI.out.own (RA.out.later HI.out.bel) (by have:=HL.out;omega) HI.out.bel.size)
     rw [← hDE] at HAP E
     clear hDE HL
     have hlen:la.length = 0 ∨ lb.length = 0:=by
       rcases hex with h | h
       · subst h;exact .inl rfl
       · subst h;exact .inr rfl
     clear hex ha hb
     generalize hna:la.length = na at *
     generalize hnb:lb.length = nb at *
     have HNB:=y46h hnb
     clear hna hnb
     by_cases hz:na = 0
     · subst hz
       clear hlen
       go_wp2_with (first
         | (at_builtin;obtain ⟨v1,w1,hrun,hown,hgr⟩:=HAP.out _;refine Lib.wpList_append_run _ rfl _ _ _ _ rfl _ _ rfl rfl _ _ hrun ?_;have B1:=y46h (zbb HI.out.own HI.out.bel (Nat.le_refl _) hgr HI.out.bel.size);have HBP:=y46h (fun ty=>zbi ty hown (RB.out.later B1.out) (by have:=HDL.out;have:=HNB.out;omega) B1.out.size);have HW:=y46h hown;obtain ⟨o1,c1,rfl⟩:=hown.len;clear HAP hgr hown)
         | (at_builtin;obtain ⟨v2,w2,hrun2,hown2,hgr2⟩:=HBP.out _;refine Lib.wpList_append_run _ rfl _ _ _ _ rfl _ _ rfl rfl _ _ hrun2 ?_))
       go_ret
       exact ⟨_,rfl,by rw [E.out] at hown2;exact hown2.row HO.out,zbb HW.out B1.out (Nat.le_refl _) hgr2 B1.out.size⟩
     · have hz2:nb = 0:=by omega
       subst hz2
       have g1:(0:Int) < (na:Int):=by omega
       clear hlen
       go_wp2_with (first
         | (at_builtin;obtain ⟨v1,w1,hrun,hown,hgr⟩:=HAP.out _;refine Lib.wpList_append_run _ rfl _ _ _ _ rfl _ _ rfl rfl _ _ hrun ?_;have B1:=y46h (zbb HI.out.own HI.out.bel (Nat.le_refl _) hgr HI.out.bel.size);have HBP:=y46h (fun ty=>zbi ty hown (RB.out.later B1.out) (by have:=HDL.out;have:=HNB.out;omega) B1.out.size);have HW:=y46h hown;obtain ⟨o1,c1,rfl⟩:=hown.len;clear HAP hgr hown)
         | (at_builtin;obtain ⟨v2,w2,hrun2,hown2,hgr2⟩:=HBP.out _;refine Lib.wpList_append_run _ rfl _ _ _ _ rfl _ _ rfl rfl _ _ hrun2 ?_))
       go_ret
       exact ⟨_,rfl,by rw [E.out] at hown2;exact hown2.row HO.out,zbb HW.out B1.out (Nat.le_refl _) hgr2 B1.out.size⟩
   · obtain ⟨x,la,rfl⟩:∃ x l',la = x :: l':=by
       cases la with
       | nil=>exact absurd (.inl rfl) hex
       | cons x l'=>exact ⟨x,l',rfl⟩
     obtain ⟨y,lb,rfl⟩:∃ y l',lb = y :: l':=by
       cases lb with
       | nil=>exact absurd (.inr rfl) hex
       | cons y l'=>exact ⟨y,l',rfl⟩
     clear hex
     have OKx:=y46h (ha.oks x (by simp))
     have OKy:=y46h (hb.oks y (by simp))
     obtain ⟨ba,oA,ca,rfl,ka1,ka2,ka3,ka4,ka5⟩:=zpv ha
     obtain ⟨bb,oB,cb,rfl,kb1,kb2,kb3,kb4,kb5⟩:=zpv hb
     have RA:=y46h ka5
     have RB:=y46h kb5
     clear ha hb ka5 kb5
     have bel:=HI.out.bel
     have za:=Nat.lt_of_lt_of_le ka3 bel.size
     have zb:=Nat.lt_of_lt_of_le kb3 bel.size
     have KA:=y46h (ka4.later ka3 bel)
     have KB:=y46h (kb4.later kb3 bel)
     clear bel ka4 kb4
     go_upto_region 3 with fail
     go_cut [6,7] (fun s6 s7 wx=>∃ bx bz,s6 = .pointer (some ⟨bx,0,none⟩) ∧ s7 = .pointer (some ⟨bz,0,none⟩) ∧ wr.heap.size ≤ bx ∧ bx ≠ bz ∧ Hid (Own wx bx (iA x) 69 ∧ Own wx bz (iA y) 69 ∧ Below wr.heap.size wr wx))
     case first =>
       go_region_held3 (fun w'=>At8 w' ba oA x ∧ At8 w' bb oB y) (first | with_reducible exact ⟨KA.out,KB.out⟩ | (refine ⟨At8.later KA.out za ?_,At8.later KB.out zb ?_⟩ <;> (repeat (first | exact Below.refl _ _ | refine Below.drew ?_ | refine Below.alloc ?_ (by simp) _ | refine Below.setCell ?_ (by simp) _)))) (fail)
       all_goals (go_wp2_with fail)
       all_goals go_meet
       · exact ⟨_,_,rfl,rfl,Nat.le_refl _,by omega,((Own.new wr (iA x) 69).alloc _).drew,(Own.newAt (wr.alloc (.cells (iA x) 69)) (iA y) 69 (by simp)).drew,(((Below.refl _ _).alloc (Nat.le_refl _) _).alloc (by simp) _).drew⟩
       · exact ⟨_,_,rfl,rfl,by omega,by omega,(Own.newAt (wr.alloc (.cells (iA y) 69)) (iA x) 69 (by simp)).drew,((Own.new wr (iA y) 69).alloc _).drew,(((Below.refl _ _).alloc (Nat.le_refl _) _).alloc (by simp) _).drew⟩
     case rest =>
       clear KA KB
       obtain ⟨bx,bz,rfl,rfl,KX,KN,HC⟩:=hcut
       generalize wc = wq at *
       have OX:=y46h HC.out.1
       have OY:=y46h HC.out.2.1
       have BW:=y46h HC.out.2.2
       have HNE:=y46h KN
       have lX:=OX.out.cell
       have zX:=OX.out.lt
       have lY:=OY.out.cell
       have zY:=OY.out.lt
       have fX:=OX.out.free
       have gA:(1:Int) ≤ ((la.length + 1:Nat):Int):=by omega
       have gB:(1:Int) ≤ ((lb.length + 1:Nat):Int):=by omega
       clear HC KN
       rcases zdg x.id y.id with h | h | h
       · have C:=y46h (show cmpS x.id y.id = -1 by unfold cmpS;rw [if_pos h])
         have EQ:=y46h (show mrgI behT (x :: la) (y :: lb) = x :: mrgI behT la (y :: lb) by rw [zd8,if_pos h])
         clear h
         go_upto_region 11 with (go_at_call 143;refine (CS _ _ _).out.mono ?_;rintro e w5 ⟨rfl,rfl⟩;rw [C.out])
         all_goals
           have HI2:=y46h (HI.out.own.later BW.out)
           have BEL2:=y46h (HI.out.bel.trans (BW.out.mono HI.out.bel.size))
           have OQ:=y46h (HI2.out.alloc (.cells (iA x) 69))
           have BQ:=y46h (BEL2.out.alloc BEL2.out.size (.cells (iA x) 69))
           have HAP:=y46h (fun ty=>zbi ty OQ.out (zfn wq x 69 OKx.out) (by have:=HI.out.len;simp only [List.length_cons,List.length_nil] at *;omega) BQ.out.size)
           go_wp2_with (at_builtin;obtain ⟨v1,w1,hrun,hown,hgr⟩:=HAP.out _;refine Lib.wpList_append_run _ rfl _ _ _ _ rfl _ _ rfl rfl _ _ hrun ?_)
           have HB2:=y46h (zbb OQ.out BQ.out (Nat.le_refl _) hgr BQ.out.size)
           go_roundw
           case rel=>exact ⟨la,y :: lb,D ++ [x],by exact zea RA.out rfl,RB.out,y46h (zew HI.out hown HB2.out EQ.out (by simp only [List.length_cons];omega))⟩
           case measure=>simp [lenV]
       · have C:=y46h (show cmpS x.id y.id = 0 by unfold cmpS;rw [h,zbg];rfl)
         have hm2:mrgI behT (x :: la) (y :: lb) = (if behT y x = true then y else x) :: mrgI behT la lb:=by rw [zd8,h,zbg];simp
         cases hbh:behT y x
         · have EQ:=y46h (show mrgI behT (x :: la) (y :: lb) = x :: mrgI behT la lb by rw [hm2,hbh];rfl)
           have g9:decide (0 < cmpT y x) = false:=by rw [zq5];exact hbh
           clear h hm2 hbh
           go_upto_region 11 with (first | (go_at_call 143;refine (CS _ _ _).out.mono ?_;rintro e w5 ⟨rfl,rfl⟩;rw [C.out]) | (go_at_call 144;refine (CT _ _ _).out.mono ?_;rintro e w6 ⟨rfl,hb6⟩;replace OX:=y46h (OX.out.later hb6);replace OY:=y46h (OY.out.later hb6);replace BW:=y46h (BW.out.trans (hb6.mono BW.out.size));have l6:=OX.out.cell;have z6:=OX.out.lt;clear hb6))
           all_goals
             have HI2:=y46h (HI.out.own.later BW.out)
             have BEL2:=y46h (HI.out.bel.trans (BW.out.mono HI.out.bel.size))
             have OQ:=y46h (HI2.out.alloc (.cells (iA x) 69))
             have BQ:=y46h (BEL2.out.alloc BEL2.out.size (.cells (iA x) 69))
             have HAP:=y46h (fun ty=>zbi ty OQ.out (zfn w6 x 69 OKx.out) (by have:=HI.out.len;simp only [List.length_cons,List.length_nil] at *;omega) BQ.out.size)
             go_wp2_with (at_builtin;obtain ⟨v1,w1,hrun,hown,hgr⟩:=HAP.out _;refine Lib.wpList_append_run _ rfl _ _ _ _ rfl _ _ rfl rfl _ _ hrun ?_)
             have HB2:=y46h (zbb OQ.out BQ.out (Nat.le_refl _) hgr BQ.out.size)
             go_roundw
             case rel=>exact ⟨la,lb,D ++ [x],by exact zea RA.out rfl,by exact zea RB.out rfl,y46h (zew HI.out hown HB2.out EQ.out (by simp only [List.length_cons];omega))⟩
             case measure=>simp [lenV];omega
         · have EQ:=y46h (show mrgI behT (x :: la) (y :: lb) = y :: mrgI behT la lb by rw [hm2,hbh];rfl)
           have g9:decide (0 < cmpT y x) = true:=by rw [zq5];exact hbh
           clear h hm2 hbh
           go_upto_region 11 with (first | (go_at_call 143;refine (CS _ _ _).out.mono ?_;rintro e w5 ⟨rfl,rfl⟩;rw [C.out]) | (go_at_call 144;refine (CT _ _ _).out.mono ?_;rintro e w6 ⟨rfl,hb6⟩;replace OX:=y46h (OX.out.later hb6);replace OY:=y46h (OY.out.later hb6);replace BW:=y46h (BW.out.trans (hb6.mono BW.out.size));have l6:=OX.out.cell;have z6:=OX.out.lt;have f6:=OX.out.free;have l7:=OY.out.cell;have z7:=OY.out.lt;clear hb6))
           all_goals
             have key:=And.intro (zbl OX.out (.string y.id) (.int .i64 y.r) (.int .i64 y.c) (.int .i64 y.st) (.string y.kd) (.int .i64 y.num) (.complex .f64 y.x y.y) (.bool y.d)) (za3 (b:=bx) BW.out KX (.string y.id) (.int .i64 y.r) (.int .i64 y.c) (.int .i64 y.st) (.string y.kd) (.int .i64 y.num) (.complex .f64 y.x y.y) (.bool y.d))
             unfold st8 at key
             revert key
             generalize World.setCell (World.setCell (World.setCell (World.setCell (World.setCell (World.setCell (World.setCell (World.setCell _ _ _) _ _) _ _) _ _) _ _) _ _) _ _) _ _ = WW
             rintro ⟨OX3,bw3⟩
             have HI2:=y46h (HI.out.own.later bw3)
             have BEL2:=y46h (HI.out.bel.trans (bw3.mono HI.out.bel.size))
             have l3:=OX3.cell
             have z3:=OX3.lt
             clear bw3 OX3
             have OQ:=y46h (HI2.out.alloc (.cells (iA y) 69))
             have BQ:=y46h (BEL2.out.alloc BEL2.out.size (.cells (iA y) 69))
             have HAP:=y46h (fun ty=>zbi ty OQ.out (zfn WW y 69 OKy.out) (by have:=HI.out.len;simp only [List.length_cons,List.length_nil] at *;omega) BQ.out.size)
             go_wp2_with (at_builtin;obtain ⟨v1,w1,hrun,hown,hgr⟩:=HAP.out _;refine Lib.wpList_append_run _ rfl _ _ _ _ rfl _ _ rfl rfl _ _ hrun ?_)
             have HB2:=y46h (zbb OQ.out BQ.out (Nat.le_refl _) hgr BQ.out.size)
             go_roundw
             case rel=>exact ⟨la,lb,D ++ [y],by exact zea RA.out rfl,by exact zea RB.out rfl,y46h (zew HI.out hown HB2.out EQ.out (by simp only [List.length_cons];omega))⟩
             case measure=>simp [lenV];omega
       · have C:=y46h (show cmpS x.id y.id = 1 by unfold cmpS;rw [zdq h,h];rfl)
         have EQ:=y46h (show mrgI behT (x :: la) (y :: lb) = y :: mrgI behT (x :: la) lb by rw [zd8,zdq h,h];simp)
         clear h
         go_upto_region 11 with (go_at_call 143;refine (CS _ _ _).out.mono ?_;rintro e w5 ⟨rfl,rfl⟩;rw [C.out])
         all_goals
           have key:=And.intro (zbl OX.out (.string y.id) (.int .i64 y.r) (.int .i64 y.c) (.int .i64 y.st) (.string y.kd) (.int .i64 y.num) (.complex .f64 y.x y.y) (.bool y.d)) (za3 (b:=bx) BW.out KX (.string y.id) (.int .i64 y.r) (.int .i64 y.c) (.int .i64 y.st) (.string y.kd) (.int .i64 y.num) (.complex .f64 y.x y.y) (.bool y.d))
           unfold st8 at key
           revert key
           generalize World.setCell (World.setCell (World.setCell (World.setCell (World.setCell (World.setCell (World.setCell (World.setCell _ _ _) _ _) _ _) _ _) _ _) _ _) _ _) _ _ = WW
           rintro ⟨OX3,bw3⟩
           have HI2:=y46h (HI.out.own.later bw3)
           have BEL2:=y46h (HI.out.bel.trans (bw3.mono HI.out.bel.size))
           have l3:=OX3.cell
           have z3:=OX3.lt
           clear bw3 OX3
           have OQ:=y46h (HI2.out.alloc (.cells (iA y) 69))
           have BQ:=y46h (BEL2.out.alloc BEL2.out.size (.cells (iA y) 69))
           have HAP:=y46h (fun ty=>zbi ty OQ.out (zfn WW y 69 OKy.out) (by have:=HI.out.len;simp only [List.length_cons,List.length_nil] at *;omega) BQ.out.size)
           go_wp2_with (at_builtin;obtain ⟨v1,w1,hrun,hown,hgr⟩:=HAP.out _;refine Lib.wpList_append_run _ rfl _ _ _ _ rfl _ _ rfl rfl _ _ hrun ?_)
           have HB2:=y46h (zbb OQ.out BQ.out (Nat.le_refl _) hgr BQ.out.size)
           go_roundw
           case rel=>exact ⟨x :: la,lb,D ++ [y],RA.out,by exact zea RB.out rfl,y46h (zew HI.out hown HB2.out EQ.out (by simp only [List.length_cons];omega))⟩
           case measure=>simp [lenV]
end Go.Proofs.YthnllikalobmeaaGreat
