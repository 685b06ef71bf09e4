/- Joined: LocCre. -/
import Derived.Test.YtodfhabkdaiopaaGreatJ42
namespace Go.Proofs.YtodfhabkdaiopaaGreat
set_option linter.unusedVariables false
set_option linter.unusedSimpArgs false
set_option maxRecDepth 100000
set_option maxHeartbeats 8000000
open Go.RowKit
theorem y45h {p:Prop} (h:p):Go.RowKit.Hid p:=Lib.hid h
theorem zi6 (s:St) (fv sv ov kv:Value) (id kd:ByteArray) (num:Int) (px py:Nat) (w:World) (hS:StW w s fv sv ov kv) (hG:Good s) (hB:StB s) (hid:id.size≤maxLen) (hkd:kd.size≤maxLen) :
   Calls Tryz.prog 74 #[stV s fv sv ov kv,.string id,.string kd,.int .i64 num,.complex .f64 px py] w (Told errI s.f fv s sv ov kv (creS s (itS id kd num px py)) (creE s (itS id kd num px py)) w):=by
 have hb1:=hB.f
 have hb2:=hB.ls
 have hb3:=hB.lo
 have hb4:=hB.kl
 have hb5:=hB.ki
 have AG:=fun w' h=>y45h (zdf s fv sv ov kv w' h (by omega) (by omega) (by omega) (by omega) (by omega))
 have GT:=fun w' h=>y45h (zoc hG id ▸ zh8 s fv sv ov kv id w' h hG.rs hG.ro (by omega) (by omega) hid)
 have VC:=fun w' h=>y45h (zd4 s fv sv ov kv (rawI id kd num px py) w' h hG ⟨hid,hkd⟩ hb1 (by show (zaf (zal s.k id s.r (s.count + 1)).l).length≤10000;rw [zbk];omega) (by omega) (by omega))
 have FT:=fun w'=>y45h (zho (rawI id kd num px py) w')
 have hn:=hG.n
 obtain ⟨of_,cf,rfl⟩:=zao hS.lf
 obtain ⟨os,cs,rfl⟩:=hS.ls.val
 obtain ⟨oo,co,rfl⟩:=hS.lo.val
 obtain ⟨ok,ck,rfl⟩:=hS.lk.val
 have HW:=y45h hS
 have E1:=y45h (z1e (s:=s) (x:=itS id kd num px py))
 have E3:=y45h (z1f (s:=s) (x:=itS id kd num px py))
 have E4:=y45h (z1g (s:=s) (x:=itS id kd num px py))
 have EV:=y45h (z1h (s:=s) (id:=id) (kd:=kd) (num:=num) (px:=px) (py:=py))
 clear hS hG hB hb1 hb2 hb3 hb4 hb5 hid hkd
 change ∀ w',Hid (Calls Tryz.prog 149 #[iV (rawI id kd num px py)] w' fun e w''=>e=.returned (.bool (mayT (itS id kd num px py)))∧Below w'.heap.size w' w'') at FT
 generalize creS s (itS id kd num px py)=us at *
 generalize creE s (itS id kd num px py)=ue at *
 generalize mayT (itS id kd num px py)=bm at *
 generalize hq:zae s id=q at *
 obtain ⟨y,bt⟩:=q
 generalize verS s (rawI id kd num px py)=U at *
 generalize verE s=VE at *
 have OA:=y45h (((Own.new w (stA s (.slice of_ s.f.kids.length cf) (.slice os s.store.length cs) (.slice oo s.out.length co) (.slice ok s.k.l.length ck)) 40).alloc (.cells stZ.toArray 40)).alloc (.cells (iA (rawI id kd num px py)) 58))
 have OT:=y45h ((Own.newAt (w.alloc (.cells (stA s (.slice of_ s.f.kids.length cf) (.slice os s.store.length cs) (.slice oo s.out.length co) (.slice ok s.k.l.length ck)) 40)) stZ.toArray 40 (b:=w.heap.size + 1) (by simp)).alloc (.cells (iA (rawI id kd num px py)) 58))
 have OX:=y45h (Own.newAt ((w.alloc (.cells (stA s (.slice of_ s.f.kids.length cf) (.slice os s.store.length cs) (.slice oo s.out.length co) (.slice ok s.k.l.length ck)) 40)).alloc (.cells stZ.toArray 40)) (iA (rawI id kd num px py)) 58 (b:=w.heap.size + 2) (by simp))
 have BE:=y45h ((((Below.refl w.heap.size w).alloc (Nat.le_refl _) (.cells (stA s (.slice of_ s.f.kids.length cf) (.slice os s.store.length cs) (.slice oo s.out.length co) (.slice ok s.k.l.length ck)) 40)).alloc (by simp) (.cells stZ.toArray 40)).alloc (by simp;omega) (.cells (iA (rawI id kd num px py)) 58))
 have lOA:=OA.out.cell
 have zOA:=OA.out.lt
 have lOX:=OX.out.cell
 have zOX:=OX.out.lt
 go_enter Tryz.func74,Tryz.ntmps74
 go_wp2_with (first | (refine wpList_load_mid (by rfl) 40 _ (by rfl) w.heap.size 0 (by rfl) ((stA s (.slice of_ s.f.kids.length cf) (.slice os s.store.length cs) (.slice oo s.out.length co) (.slice ok s.k.l.length ck))).toList _ OA.out.range Tryz.underlying40 (by rfl) (by kernel_rfl) ?_) | fail)
 refine (GT _ (HW.out.later BE.out)).out.mono ?_
 rintro e w1 ⟨rfl,hb⟩
 clear lOA zOA lOX zOX
 replace OA:=y45h (OA.out.later hb)
 replace OT:=y45h (OT.out.later hb)
 replace OX:=y45h (OX.out.later hb)
 replace BE:=y45h (BE.out.trans (hb.mono BE.out.size))
 clear hb
 have O6:=y45h (Own.new w1 (iA y) 58)
 replace BE:=y45h (BE.out.alloc (by have:=BE.out.size;omega) (.cells (iA y) 58))
 replace OA:=y45h (OA.out.alloc (.cells (iA y) 58))
 replace OT:=y45h (OT.out.alloc (.cells (iA y) 58))
 replace OX:=y45h (OX.out.alloc (.cells (iA y) 58))
 have lOA:=OA.out.cell
 have zOA:=OA.out.lt
 have lOX:=OX.out.cell
 have zOX:=OX.out.lt
 go_wp2_with fail
 refine (FT _).out.mono ?_
 rintro e w2 ⟨rfl,hb⟩
 clear lOA zOA lOX zOX
 replace OA:=y45h (OA.out.later hb)
 replace OT:=y45h (OT.out.later hb)
 replace OX:=y45h (OX.out.later hb)
 replace O6:=y45h (O6.out.later hb)
 replace BE:=y45h (BE.out.trans (hb.mono BE.out.size))
 clear hb
 have lOA:=OA.out.cell
 have zOA:=OA.out.lt
 have lOX:=OX.out.cell
 have zOX:=OX.out.lt
 have lO6:=O6.out.cell
 have zO6:=O6.out.lt
 cases bm
 · have EE:=y45h (E1.out rfl)
   go_wp2_with (first | (refine wpList_load_mid (by rfl) 40 _ (by rfl) w.heap.size 0 (by rfl) ((stA s (.slice of_ s.f.kids.length cf) (.slice os s.store.length cs) (.slice oo s.out.length co) (.slice ok s.k.l.length ck))).toList _ OA.out.range Tryz.underlying40 (by rfl) (by kernel_rfl) ?_) | fail)
   refine (AG _ (HW.out.later BE.out)).out.mono ?_
   rintro e w3 ⟨v3,v4,v5,v6,rfl,hl,hr4,hr5,hk,hb⟩
   obtain ⟨o3,c3,rfl⟩:=zao hl.lp
   obtain ⟨o4,c4,rfl⟩:=hr4.row.val
   obtain ⟨o5,c5,rfl⟩:=hr5.row.val
   obtain ⟨o6,c6,rfl⟩:=hk.fr.val
   have zw:=OT.out.lt
   have zB:=BE.out.size
   clear lOA zOA lOX zOX lO6 zO6
   replace BE:=y45h (BE.out.trans (hb.mono BE.out.size))
   replace OT:=y45h (OT.out.later hb)
   have HK:=y45h (And.intro (OT.out.sets (stA s (.slice o3 s.f.kids.length c3) (.slice o4 s.store.length c4) (.slice o5 s.out.length c5) (.slice o6 s.k.l.length c6)).toList (by rfl)) (And.intro (zaa (b:=w.heap.size + 1) (by omega) (stA s (.slice o3 s.f.kids.length c3) (.slice o4 s.store.length c4) (.slice o5 s.out.length c5) (.slice o6 s.k.l.length c6)).toList 0 BE.out) (And.intro ((hl.setsAt (b:=w.heap.size + 1) zw (stA s (.slice o3 s.f.kids.length c3) (.slice o4 s.store.length c4) (.slice o5 s.out.length c5) (.slice o6 s.k.l.length c6)).toList 0).mono' zB) (And.intro ((hr4.sets (b:=w.heap.size + 1) zw (stA s (.slice o3 s.f.kids.length c3) (.slice o4 s.store.length c4) (.slice o5 s.out.length c5) (.slice o6 s.k.l.length c6)).toList 0).mono zB) (And.intro ((hr5.sets (b:=w.heap.size + 1) zw (stA s (.slice o3 s.f.kids.length c3) (.slice o4 s.store.length c4) (.slice o5 s.out.length c5) (.slice o6 s.k.l.length c6)).toList 0).mono zB) ((hk.sets (b:=w.heap.size + 1) zw (stA s (.slice o3 s.f.kids.length c3) (.slice o4 s.store.length c4) (.slice o5 s.out.length c5) (.slice o6 s.k.l.length c6)).toList 0).mono zB))))))
   clear hl hr4 hr5 hk hb zw zB
   go_wp2_with (first | (refine wpList_store_mid (by rfl) 40 _ _ (by rfl) (w.heap.size + 1) 0 (stA s (.slice o3 s.f.kids.length c3) (.slice o4 s.store.length c4) (.slice o5 s.out.length c5) (.slice o6 s.k.l.length c6)) (by rfl) (by rfl) (OT.out.there (by rfl)) (by kernel_rfl) (by simp [Value.oneCell']) ?_) | fail)
   revert HK
   generalize World.setCells _ _ _ _=WW
   intro HK
   refine zab (by rfl) (by rfl) (by rfl) HK.out.1.range Tryz.underlying40 (by rfl) (by kernel_rfl) rfl ?_
   rw [EE.out.1,EE.out.2]
   exact ⟨_,_,_,_,rfl,⟨.inr HK.out.2.2.1,.inr HK.out.2.2.2.1,.inr HK.out.2.2.2.2.1,.inr HK.out.2.2.2.2.2⟩,HK.out.2.1⟩
 · clear E1
   cases bt
   · clear E3
     by_cases h40:s.store.length + s.out.length=40
     · have EE:=y45h (E4.out rfl rfl h40)
       clear EV E4 hq
       have g40:(40:Int)≤(s.store.length:Int) + (s.out.length:Int):=by omega
       have g41:(s.store.length:Int) + (s.out.length:Int)≤9223372036854775807:=by omega
       go_wp2_with (first | (refine wpList_load_mid (by rfl) 40 _ (by rfl) w.heap.size 0 (by rfl) ((stA s (.slice of_ s.f.kids.length cf) (.slice os s.store.length cs) (.slice oo s.out.length co) (.slice ok s.k.l.length ck))).toList _ OA.out.range Tryz.underlying40 (by rfl) (by kernel_rfl) ?_) | fail)
       refine (AG _ (HW.out.later BE.out)).out.mono ?_
       rintro e w3 ⟨v3,v4,v5,v6,rfl,hl,hr4,hr5,hk,hb⟩
       obtain ⟨o3,c3,rfl⟩:=zao hl.lp
       obtain ⟨o4,c4,rfl⟩:=hr4.row.val
       obtain ⟨o5,c5,rfl⟩:=hr5.row.val
       obtain ⟨o6,c6,rfl⟩:=hk.fr.val
       have zw:=OT.out.lt
       have zB:=BE.out.size
       clear lOA zOA lOX zOX lO6 zO6
       replace BE:=y45h (BE.out.trans (hb.mono BE.out.size))
       replace OT:=y45h (OT.out.later hb)
       have HK:=y45h (And.intro (OT.out.sets (stA s (.slice o3 s.f.kids.length c3) (.slice o4 s.store.length c4) (.slice o5 s.out.length c5) (.slice o6 s.k.l.length c6)).toList (by rfl)) (And.intro (zaa (b:=w.heap.size + 1) (by omega) (stA s (.slice o3 s.f.kids.length c3) (.slice o4 s.store.length c4) (.slice o5 s.out.length c5) (.slice o6 s.k.l.length c6)).toList 0 BE.out) (And.intro ((hl.setsAt (b:=w.heap.size + 1) zw (stA s (.slice o3 s.f.kids.length c3) (.slice o4 s.store.length c4) (.slice o5 s.out.length c5) (.slice o6 s.k.l.length c6)).toList 0).mono' zB) (And.intro ((hr4.sets (b:=w.heap.size + 1) zw (stA s (.slice o3 s.f.kids.length c3) (.slice o4 s.store.length c4) (.slice o5 s.out.length c5) (.slice o6 s.k.l.length c6)).toList 0).mono zB) (And.intro ((hr5.sets (b:=w.heap.size + 1) zw (stA s (.slice o3 s.f.kids.length c3) (.slice o4 s.store.length c4) (.slice o5 s.out.length c5) (.slice o6 s.k.l.length c6)).toList 0).mono zB) ((hk.sets (b:=w.heap.size + 1) zw (stA s (.slice o3 s.f.kids.length c3) (.slice o4 s.store.length c4) (.slice o5 s.out.length c5) (.slice o6 s.k.l.length c6)).toList 0).mono zB))))))
       clear hl hr4 hr5 hk hb zw zB
       go_wp2_with (first | (refine wpList_store_mid (by rfl) 40 _ _ (by rfl) (w.heap.size + 1) 0 (stA s (.slice o3 s.f.kids.length c3) (.slice o4 s.store.length c4) (.slice o5 s.out.length c5) (.slice o6 s.k.l.length c6)) (by rfl) (by rfl) (OT.out.there (by rfl)) (by kernel_rfl) (by simp [Value.oneCell']) ?_) | fail)
       revert HK
       generalize World.setCells _ _ _ _=WW
       intro HK
       refine zab (by rfl) (by rfl) (by rfl) HK.out.1.range Tryz.underlying40 (by rfl) (by kernel_rfl) rfl ?_
       rw [EE.out.1,EE.out.2]
       exact ⟨_,_,_,_,rfl,⟨.inr HK.out.2.2.1,.inr HK.out.2.2.2.1,.inr HK.out.2.2.2.2.1,.inr HK.out.2.2.2.2.2⟩,HK.out.2.1⟩
     · have EE:=y45h (EV.out rfl (by simp) (fun h=>h40 h.2))
       clear EV E4 hq
       have g40:¬ (40:Int)≤(s.store.length:Int) + (s.out.length:Int):=by omega
       go_wp2_with (first | (refine wpList_load_mid (by rfl) 40 _ (by rfl) w.heap.size 0 (by rfl) ((stA s (.slice of_ s.f.kids.length cf) (.slice os s.store.length cs) (.slice oo s.out.length co) (.slice ok s.k.l.length ck))).toList _ OA.out.range Tryz.underlying40 (by rfl) (by kernel_rfl) ?_) | fail)
       refine (VC _ (HW.out.later BE.out)).out.mono ?_
       rintro e w3 ⟨v3,v4,v5,v6,rfl,hn,hb⟩
       have hst:=hn.lies (HW.out.later BE.out).lf (HW.out.later BE.out).ls (HW.out.later BE.out).lo (HW.out.later BE.out).lk hb
       have hfv3:v3.oneCell'=true:=zas hst.lf
       have hsv3:v4.oneCell'=true:=(by obtain ⟨_,_,_,_,e,_⟩:=hst.ls;rw [e];rfl)
       have hov3:v5.oneCell'=true:=(by obtain ⟨_,_,_,_,e,_⟩:=hst.lo;rw [e];rfl)
       have hkv3:v6.oneCell'=true:=(by obtain ⟨_,_,e⟩:=hst.lk.val;rw [e];rfl)
       unfold Value.oneCell' at hfv3 hsv3 hov3 hkv3
       have zw:=OT.out.lt
       have zB:=BE.out.size
       clear lOA zOA lOX zOX lO6 zO6
       replace BE:=y45h (BE.out.trans (hb.mono BE.out.size))
       replace OT:=y45h (OT.out.later hb)
       have HK:=y45h (And.intro (OT.out.sets (stA U v3 v4 v5 v6).toList (by rfl)) (And.intro (zaa (b:=w.heap.size + 1) (by omega) (stA U v3 v4 v5 v6).toList 0 BE.out) ((hn.sets zw (stA U v3 v4 v5 v6).toList).mono zB)))
       clear hn hb hst zw zB
       go_wp2_with (first | (refine wpList_store_mid (by rfl) 40 _ _ (by rfl) (w.heap.size + 1) 0 (stA U v3 v4 v5 v6) (by rfl) (by rfl) (OT.out.there (by rfl)) (by kernel_rfl) (by simp [Value.oneCell',hfv3,hsv3,hov3,hkv3]) ?_) | fail)
       revert HK
       generalize World.setCells _ _ _ _=WW
       intro HK
       refine zab (by rfl) (by rfl) (by rfl) HK.out.1.range Tryz.underlying40 (by rfl) (by kernel_rfl) rfl ?_
       rw [EE.out.1,EE.out.2]
       exact ⟨v3,v4,v5,v6,rfl,HK.out.2.2,HK.out.2.1⟩
   · clear E4
     cases hd:y.d
     · have EE:=y45h (E3.out rfl rfl hd)
       clear EV E3 hq
       go_wp2_with (first | (refine wpList_load_mid (by rfl) 40 _ (by rfl) w.heap.size 0 (by rfl) ((stA s (.slice of_ s.f.kids.length cf) (.slice os s.store.length cs) (.slice oo s.out.length co) (.slice ok s.k.l.length ck))).toList _ OA.out.range Tryz.underlying40 (by rfl) (by kernel_rfl) ?_) | fail)
       refine (AG _ (HW.out.later BE.out)).out.mono ?_
       rintro e w3 ⟨v3,v4,v5,v6,rfl,hl,hr4,hr5,hk,hb⟩
       obtain ⟨o3,c3,rfl⟩:=zao hl.lp
       obtain ⟨o4,c4,rfl⟩:=hr4.row.val
       obtain ⟨o5,c5,rfl⟩:=hr5.row.val
       obtain ⟨o6,c6,rfl⟩:=hk.fr.val
       have zw:=OT.out.lt
       have zB:=BE.out.size
       clear lOA zOA lOX zOX lO6 zO6
       replace BE:=y45h (BE.out.trans (hb.mono BE.out.size))
       replace OT:=y45h (OT.out.later hb)
       have HK:=y45h (And.intro (OT.out.sets (stA s (.slice o3 s.f.kids.length c3) (.slice o4 s.store.length c4) (.slice o5 s.out.length c5) (.slice o6 s.k.l.length c6)).toList (by rfl)) (And.intro (zaa (b:=w.heap.size + 1) (by omega) (stA s (.slice o3 s.f.kids.length c3) (.slice o4 s.store.length c4) (.slice o5 s.out.length c5) (.slice o6 s.k.l.length c6)).toList 0 BE.out) (And.intro ((hl.setsAt (b:=w.heap.size + 1) zw (stA s (.slice o3 s.f.kids.length c3) (.slice o4 s.store.length c4) (.slice o5 s.out.length c5) (.slice o6 s.k.l.length c6)).toList 0).mono' zB) (And.intro ((hr4.sets (b:=w.heap.size + 1) zw (stA s (.slice o3 s.f.kids.length c3) (.slice o4 s.store.length c4) (.slice o5 s.out.length c5) (.slice o6 s.k.l.length c6)).toList 0).mono zB) (And.intro ((hr5.sets (b:=w.heap.size + 1) zw (stA s (.slice o3 s.f.kids.length c3) (.slice o4 s.store.length c4) (.slice o5 s.out.length c5) (.slice o6 s.k.l.length c6)).toList 0).mono zB) ((hk.sets (b:=w.heap.size + 1) zw (stA s (.slice o3 s.f.kids.length c3) (.slice o4 s.store.length c4) (.slice o5 s.out.length c5) (.slice o6 s.k.l.length c6)).toList 0).mono zB))))))
       clear hl hr4 hr5 hk hb zw zB
       go_wp2_with (first | (refine wpList_store_mid (by rfl) 40 _ _ (by rfl) (w.heap.size + 1) 0 (stA s (.slice o3 s.f.kids.length c3) (.slice o4 s.store.length c4) (.slice o5 s.out.length c5) (.slice o6 s.k.l.length c6)) (by rfl) (by rfl) (OT.out.there (by rfl)) (by kernel_rfl) (by simp [Value.oneCell']) ?_) | fail)
       revert HK
       generalize World.setCells _ _ _ _=WW
       intro HK
       refine zab (by rfl) (by rfl) (by rfl) HK.out.1.range Tryz.underlying40 (by rfl) (by kernel_rfl) rfl ?_
       rw [EE.out.1,EE.out.2]
       exact ⟨_,_,_,_,rfl,⟨.inr HK.out.2.2.1,.inr HK.out.2.2.2.1,.inr HK.out.2.2.2.2.1,.inr HK.out.2.2.2.2.2⟩,HK.out.2.1⟩
     · have EE:=y45h (EV.out rfl (by simp [hd]) (by simp))
       clear EV E3 hq
       go_wp2_with (first | (refine wpList_load_mid (by rfl) 40 _ (by rfl) w.heap.size 0 (by rfl) ((stA s (.slice of_ s.f.kids.length cf) (.slice os s.store.length cs) (.slice oo s.out.length co) (.slice ok s.k.l.length ck))).toList _ OA.out.range Tryz.underlying40 (by rfl) (by kernel_rfl) ?_) | fail)
       refine (VC _ (HW.out.later BE.out)).out.mono ?_
       rintro e w3 ⟨v3,v4,v5,v6,rfl,hn,hb⟩
       have hst:=hn.lies (HW.out.later BE.out).lf (HW.out.later BE.out).ls (HW.out.later BE.out).lo (HW.out.later BE.out).lk hb
       have hfv3:v3.oneCell'=true:=zas hst.lf
       have hsv3:v4.oneCell'=true:=(by obtain ⟨_,_,_,_,e,_⟩:=hst.ls;rw [e];rfl)
       have hov3:v5.oneCell'=true:=(by obtain ⟨_,_,_,_,e,_⟩:=hst.lo;rw [e];rfl)
       have hkv3:v6.oneCell'=true:=(by obtain ⟨_,_,e⟩:=hst.lk.val;rw [e];rfl)
       unfold Value.oneCell' at hfv3 hsv3 hov3 hkv3
       have zw:=OT.out.lt
       have zB:=BE.out.size
       clear lOA zOA lOX zOX lO6 zO6
       replace BE:=y45h (BE.out.trans (hb.mono BE.out.size))
       replace OT:=y45h (OT.out.later hb)
       have HK:=y45h (And.intro (OT.out.sets (stA U v3 v4 v5 v6).toList (by rfl)) (And.intro (zaa (b:=w.heap.size + 1) (by omega) (stA U v3 v4 v5 v6).toList 0 BE.out) ((hn.sets zw (stA U v3 v4 v5 v6).toList).mono zB)))
       clear hn hb hst zw zB
       go_wp2_with (first | (refine wpList_store_mid (by rfl) 40 _ _ (by rfl) (w.heap.size + 1) 0 (stA U v3 v4 v5 v6) (by rfl) (by rfl) (OT.out.there (by rfl)) (by kernel_rfl) (by simp [Value.oneCell',hfv3,hsv3,hov3,hkv3]) ?_) | fail)
       revert HK
       generalize World.setCells _ _ _ _=WW
       intro HK
       refine zab (by rfl) (by rfl) (by rfl) HK.out.1.range Tryz.underlying40 (by rfl) (by kernel_rfl) rfl ?_
       rw [EE.out.1,EE.out.2]
       exact ⟨v3,v4,v5,v6,rfl,HK.out.2.2,HK.out.2.1⟩
end Go.Proofs.YtodfhabkdaiopaaGreat
