/- Joined: LocCud, LocUpd, LocDel. -/
import Derived.Test.YthnllikalobmeaaGreatK40
import Derived.Test.YthnllikalobmeaaGreatK35
import Derived.Test.YthnllikalobmeaaGreatK34
import Derived.Test.YthnllikalobmeaaGreatK05
namespace Go.Proofs.YthnllikalobmeaaGreat
set_option linter.unusedVariables false
set_option linter.unusedSimpArgs false
set_option maxRecDepth 100000
set_option maxHeartbeats 8000000
open Go.RowKit
theorem y41h {p:Prop} (h:p):Hid p:=Lib.hid h
abbrev rawI (id kd:ByteArray) (num:Int) (px py:Nat):Itm:=⟨id,0,0,0,kd,num,px,py,false⟩
theorem z1d {s:St} {x:Itm} (h:mayT x = false):creS s x = s ∧ creE s x = 1:=by
 have e:creE s x = 1:=by unfold creE;rw [if_neg (by simp [h])]
 exact ⟨by unfold creS;rw [e,if_neg (by decide)],e⟩
theorem z1e {s:St} {x:Itm} (h:mayT x = true) (h2:(zag s x.id).2 = true) (h3:(zag s x.id).1.d = false):creS s x = s ∧ creE s x = 3:=by
 have e:creE s x = 3:=by unfold creE;rw [if_pos h,if_pos ⟨h2,h3⟩]
 exact ⟨by unfold creS;rw [e,if_neg (by decide)],e⟩
theorem z1f {s:St} {x:Itm} (h:mayT x = true) (h2:(zag s x.id).2 = false) (h3:s.store.length + s.out.length = 40):creS s x = s ∧ creE s x = 4:=by
 have e:creE s x = 4:=by unfold creE;rw [if_pos h,if_neg (by simp [h2]),if_pos ⟨h2,h3⟩]
 exact ⟨by unfold creS;rw [e,if_neg (by decide)],e⟩
theorem zf8 (s:St) (x:Itm):(verE s = 0 → verS s x = zay s x) ∧ (verE s ≠ 0 → verS s x = s):=by
 unfold verE verS
 cases zbb s <;> simp
theorem z1g {s:St} {id kd:ByteArray} {num:Int} {px py:Nat} (h:mayT (itS id kd num px py) = true) (h2:¬((zag s id).2 = true ∧ (zag s id).1.d = false)) (h3:¬((zag s id).2 = false ∧ s.store.length + s.out.length = 40)):creS s (itS id kd num px py) = verS s (rawI id kd num px py) ∧ creE s (itS id kd num px py) = verE s:=by
 have e:creE s (itS id kd num px py) = verE s:=by unfold creE verE;rw [if_pos h,if_neg h2,if_neg h3]
 refine ⟨?_,e⟩
 unfold creS
 rw [e]
 split
 · rename_i h0;exact ((zf8 s _).1 h0).symm
 · rename_i h0;exact ((zf8 s _).2 h0).symm
theorem z1t {s:St} {x:Itm} (h:mayT x = false):updS s x = s ∧ updE s x = 1:=by
 have e:updE s x = 1:=by unfold updE;rw [if_neg (by simp [h])]
 exact ⟨by unfold updS;rw [e,if_neg (by decide)],e⟩
theorem z1u {s:St} {x:Itm} (h:mayT x = true) (h2:¬((zag s x.id).2 = true ∧ (zag s x.id).1.d = false)):updS s x = s ∧ updE s x = 2:=by
 have e:updE s x = 2:=by unfold updE;rw [if_pos h,if_neg h2]
 exact ⟨by unfold updS;rw [e,if_neg (by decide)],e⟩
theorem z1v {s:St} {id kd:ByteArray} {num:Int} {px py:Nat} (h:mayT (itS id kd num px py) = true) (h2:(zag s id).2 = true ∧ (zag s id).1.d = false):updS s (itS id kd num px py) = verS s (rawI id kd num px py) ∧ updE s (itS id kd num px py) = verE s:=by
 have e:updE s (itS id kd num px py) = verE s:=by unfold updE verE;rw [if_pos h,if_pos h2]
 refine ⟨?_,e⟩
 unfold updS
 rw [e]
 split
 · rename_i h0;exact ((zf8 s _).1 h0).symm
 · rename_i h0;exact ((zf8 s _).2 h0).symm
theorem z1h {s:St} {id:ByteArray} (h:zaz id = true) (h2:(zag s id).2 = true ∧ (zag s id).1.d = false):delS s id = verS s (zfb (zag s id).1) ∧ delE s id = verE s:=by
 have e:delE s id = verE s:=by unfold delE verE;rw [if_pos h,if_pos h2]
 refine ⟨?_,e⟩
 unfold delS
 rw [e]
 split
 · rename_i h0;exact ((zf8 s _).1 h0).symm
 · rename_i h0;exact ((zf8 s _).2 h0).symm
theorem zin (s:St) (fv sv ov kv:Value) (id kd:ByteArray) (num:Int) (px py:Nat) (w:World) (hS:StW w s fv sv ov kv) (hG:Good s) (hB:StB s) (hid:id.size ≤ maxLen) (hkd:kd.size ≤ maxLen) :
   Calls Tryz.prog 48 #[stV s fv sv ov kv,.string id,.string kd,.int .i64 num,.complex .f64 px py] w (Told errI s.f fv s sv ov kv (updS s (itS id kd num px py)) (updE s (itS id kd num px py)) w):=by
 have hb1:=hB.f
 have hb2:=hB.ls
 have hb3:=hB.lo
 have hb4:=hB.kl
 have hb5:=hB.ki
 have AG:=fun w' h=>y41h (zdb s fv sv ov kv w' h (by omega) (by omega) (by omega) (by omega) (by omega))
 have GT:=fun w' h=>y41h (zn1 hG id ▸ zhr s fv sv ov kv id w' h hG.rs hG.ro (by omega) (by omega) hid)
 have VC:=fun w' h=>y41h (zdh s fv sv ov kv (rawI id kd num px py) w' h hG ⟨hid,hkd⟩ hb1 (by show (zaf (zap s.k id s.r (s.count + 1)).l).length ≤ 10000;rw [zch];omega) (by omega) (by omega))
 have FT:=fun w'=>y41h (zg4 (rawI id kd num px py) w')
 have hn:=hG.n
 obtain ⟨of_,cf,rfl⟩:=zal hS.lf
 obtain ⟨os,cs,rfl⟩:=hS.ls.val
 obtain ⟨oo,co,rfl⟩:=hS.lo.val
 obtain ⟨ok,ck,rfl⟩:=hS.lk.val
 have HW:=y41h hS
 have E1:=y41h (z1t (s:=s) (x:=itS id kd num px py))
 have E2:=y41h (z1u (s:=s) (x:=itS id kd num px py))
 have EV:=y41h (z1v (s:=s) (id:=id) (kd:=kd) (num:=num) (px:=px) (py:=py))
 clear hS hG hB hb1 hb2 hb3 hb4 hb5 hid hkd
 change ∀ w',Hid (Calls Tryz.prog 68 #[iV (rawI id kd num px py)] w' fun e w''=>e = .returned (.bool (mayT (itS id kd num px py))) ∧ Below w'.heap.size w' w'') at FT
 generalize updS s (itS id kd num px py) = us at *
 generalize updE s (itS id kd num px py) = ue at *
 generalize mayT (itS id kd num px py) = bm at *
 generalize hq:zag s id = q at *
 obtain ⟨y,bt⟩:=q
 generalize verS s (rawI id kd num px py) = U at *
 generalize verE s = VE at *
 have OA:=y41h (((Own.new w (stA s (.slice of_ s.f.kids.length cf) (.slice os s.store.length cs) (.slice oo s.out.length co) (.slice ok s.k.l.length ck)) 43).alloc (.cells stZ.toArray 43)).alloc (.cells (iA (rawI id kd num px py)) 69))
 have OT:=y41h ((Own.newAt (w.alloc (.cells (stA s (.slice of_ s.f.kids.length cf) (.slice os s.store.length cs) (.slice oo s.out.length co) (.slice ok s.k.l.length ck)) 43)) stZ.toArray 43 (b:=w.heap.size + 1) (by simp)).alloc (.cells (iA (rawI id kd num px py)) 69))
 have OX:=y41h (Own.newAt ((w.alloc (.cells (stA s (.slice of_ s.f.kids.length cf) (.slice os s.store.length cs) (.slice oo s.out.length co) (.slice ok s.k.l.length ck)) 43)).alloc (.cells stZ.toArray 43)) (iA (rawI id kd num px py)) 69 (b:=w.heap.size + 2) (by simp))
 have BE:=y41h ((((Below.refl w.heap.size w).alloc (Nat.le_refl _) (.cells (stA s (.slice of_ s.f.kids.length cf) (.slice os s.store.length cs) (.slice oo s.out.length co) (.slice ok s.k.l.length ck)) 43)).alloc (by simp) (.cells stZ.toArray 43)).alloc (by simp;omega) (.cells (iA (rawI id kd num px py)) 69))
 have lOA:=OA.out.cell
 have zOA:=OA.out.lt
 have lOX:=OX.out.cell
 have zOX:=OX.out.lt
 go_enter Tryz.func48,Tryz.ntmps48
 go_wp2_with (first | (refine wpList_load_mid (by rfl) 43 _ (by rfl) w.heap.size 0 (by rfl) ((stA s (.slice of_ s.f.kids.length cf) (.slice os s.store.length cs) (.slice oo s.out.length co) (.slice ok s.k.l.length ck))).toList _ OA.out.range Tryz.underlying43 (by rfl) (by kernel_rfl) ?_) | fail)
 refine (GT _ (HW.out.later BE.out)).out.mono ?_
 rintro e w1 ⟨rfl,hb⟩
 clear lOA zOA lOX zOX
 replace OA:=y41h (OA.out.later hb)
 replace OT:=y41h (OT.out.later hb)
 replace OX:=y41h (OX.out.later hb)
 replace BE:=y41h (BE.out.trans (hb.mono BE.out.size))
 clear hb
 have O6:=y41h (Own.new w1 (iA y) 69)
 replace BE:=y41h (BE.out.alloc (by have:=BE.out.size;omega) (.cells (iA y) 69))
 replace OA:=y41h (OA.out.alloc (.cells (iA y) 69))
 replace OT:=y41h (OT.out.alloc (.cells (iA y) 69))
 replace OX:=y41h (OX.out.alloc (.cells (iA y) 69))
 have lOA:=OA.out.cell
 have zOA:=OA.out.lt
 have lOX:=OX.out.cell
 have zOX:=OX.out.lt
 go_wp2_with fail
 refine (FT _).out.mono ?_
 rintro e w2 ⟨rfl,hb⟩
 clear lOA zOA lOX zOX
 replace OA:=y41h (OA.out.later hb)
 replace OT:=y41h (OT.out.later hb)
 replace OX:=y41h (OX.out.later hb)
 replace O6:=y41h (O6.out.later hb)
 replace BE:=y41h (BE.out.trans (hb.mono BE.out.size))
 clear hb
 have lOA:=OA.out.cell
 have zOA:=OA.out.lt
 have lOX:=OX.out.cell
 have zOX:=OX.out.lt
 have lO6:=O6.out.cell
 have zO6:=O6.out.lt
 cases bm
 · have EE:=y41h (E1.out rfl)
   go_wp2_with (first | (refine wpList_load_mid (by rfl) 43 _ (by rfl) w.heap.size 0 (by rfl) ((stA s (.slice of_ s.f.kids.length cf) (.slice os s.store.length cs) (.slice oo s.out.length co) (.slice ok s.k.l.length ck))).toList _ OA.out.range Tryz.underlying43 (by rfl) (by kernel_rfl) ?_) | fail)
   refine (AG _ (HW.out.later BE.out)).out.mono ?_
   rintro e w3 ⟨v3,v4,v5,v6,rfl,hl,hr4,hr5,hk,hb⟩
   obtain ⟨o3,c3,rfl⟩:=zal hl.lp
   obtain ⟨o4,c4,rfl⟩:=hr4.row.val
   obtain ⟨o5,c5,rfl⟩:=hr5.row.val
   obtain ⟨o6,c6,rfl⟩:=hk.fr.val
   have zw:=OT.out.lt
   have zB:=BE.out.size
   clear lOA zOA lOX zOX lO6 zO6
   replace BE:=y41h (BE.out.trans (hb.mono BE.out.size))
   replace OT:=y41h (OT.out.later hb)
   have HK:=y41h (And.intro (OT.out.sets (stA s (.slice o3 s.f.kids.length c3) (.slice o4 s.store.length c4) (.slice o5 s.out.length c5) (.slice o6 s.k.l.length c6)).toList (by rfl)) (And.intro (zab (b:=w.heap.size + 1) (by omega) (stA s (.slice o3 s.f.kids.length c3) (.slice o4 s.store.length c4) (.slice o5 s.out.length c5) (.slice o6 s.k.l.length c6)).toList 0 BE.out) (And.intro ((hl.setsAt (b:=w.heap.size + 1) zw (stA s (.slice o3 s.f.kids.length c3) (.slice o4 s.store.length c4) (.slice o5 s.out.length c5) (.slice o6 s.k.l.length c6)).toList 0).mono' zB) (And.intro ((hr4.sets (b:=w.heap.size + 1) zw (stA s (.slice o3 s.f.kids.length c3) (.slice o4 s.store.length c4) (.slice o5 s.out.length c5) (.slice o6 s.k.l.length c6)).toList 0).mono zB) (And.intro ((hr5.sets (b:=w.heap.size + 1) zw (stA s (.slice o3 s.f.kids.length c3) (.slice o4 s.store.length c4) (.slice o5 s.out.length c5) (.slice o6 s.k.l.length c6)).toList 0).mono zB) ((hk.sets (b:=w.heap.size + 1) zw (stA s (.slice o3 s.f.kids.length c3) (.slice o4 s.store.length c4) (.slice o5 s.out.length c5) (.slice o6 s.k.l.length c6)).toList 0).mono zB))))))
   clear hl hr4 hr5 hk hb zw zB
   go_wp2_with (first | (refine wpList_store_mid (by rfl) 43 _ _ (by rfl) (w.heap.size + 1) 0 (stA s (.slice o3 s.f.kids.length c3) (.slice o4 s.store.length c4) (.slice o5 s.out.length c5) (.slice o6 s.k.l.length c6)) (by rfl) (by rfl) (OT.out.there (by rfl)) (by kernel_rfl) (by simp [Value.oneCell']) ?_) | fail)
   revert HK
   generalize World.setCells _ _ _ _ = WW
   intro HK
   refine zae (by rfl) (by rfl) (by rfl) HK.out.1.range Tryz.underlying43 (by rfl) (by kernel_rfl) rfl ?_
   rw [EE.out.1,EE.out.2]
   exact ⟨_,_,_,_,rfl,⟨.inr HK.out.2.2.1,.inr HK.out.2.2.2.1,.inr HK.out.2.2.2.2.1,.inr HK.out.2.2.2.2.2⟩,HK.out.2.1⟩
 · clear E1
   cases bt
   · have EE:=y41h (E2.out rfl (by simp))
     clear EV E2 hq
     go_wp2_with (first | (refine wpList_load_mid (by rfl) 43 _ (by rfl) w.heap.size 0 (by rfl) ((stA s (.slice of_ s.f.kids.length cf) (.slice os s.store.length cs) (.slice oo s.out.length co) (.slice ok s.k.l.length ck))).toList _ OA.out.range Tryz.underlying43 (by rfl) (by kernel_rfl) ?_) | fail)
     refine (AG _ (HW.out.later BE.out)).out.mono ?_
     rintro e w3 ⟨v3,v4,v5,v6,rfl,hl,hr4,hr5,hk,hb⟩
     obtain ⟨o3,c3,rfl⟩:=zal hl.lp
     obtain ⟨o4,c4,rfl⟩:=hr4.row.val
     obtain ⟨o5,c5,rfl⟩:=hr5.row.val
     obtain ⟨o6,c6,rfl⟩:=hk.fr.val
     have zw:=OT.out.lt
     have zB:=BE.out.size
     clear lOA zOA lOX zOX lO6 zO6
     replace BE:=y41h (BE.out.trans (hb.mono BE.out.size))
     replace OT:=y41h (OT.out.later hb)
     have HK:=y41h (And.intro (OT.out.sets (stA s (.slice o3 s.f.kids.length c3) (.slice o4 s.store.length c4) (.slice o5 s.out.length c5) (.slice o6 s.k.l.length c6)).toList (by rfl)) (And.intro (zab (b:=w.heap.size + 1) (by omega) (stA s (.slice o3 s.f.kids.length c3) (.slice o4 s.store.length c4) (.slice o5 s.out.length c5) (.slice o6 s.k.l.length c6)).toList 0 BE.out) (And.intro ((hl.setsAt (b:=w.heap.size + 1) zw (stA s (.slice o3 s.f.kids.length c3) (.slice o4 s.store.length c4) (.slice o5 s.out.length c5) (.slice o6 s.k.l.length c6)).toList 0).mono' zB) (And.intro ((hr4.sets (b:=w.heap.size + 1) zw (stA s (.slice o3 s.f.kids.length c3) (.slice o4 s.store.length c4) (.slice o5 s.out.length c5) (.slice o6 s.k.l.length c6)).toList 0).mono zB) (And.intro ((hr5.sets (b:=w.heap.size + 1) zw (stA s (.slice o3 s.f.kids.length c3) (.slice o4 s.store.length c4) (.slice o5 s.out.length c5) (.slice o6 s.k.l.length c6)).toList 0).mono zB) ((hk.sets (b:=w.heap.size + 1) zw (stA s (.slice o3 s.f.kids.length c3) (.slice o4 s.store.length c4) (.slice o5 s.out.length c5) (.slice o6 s.k.l.length c6)).toList 0).mono zB))))))
     clear hl hr4 hr5 hk hb zw zB
     go_wp2_with (first | (refine wpList_store_mid (by rfl) 43 _ _ (by rfl) (w.heap.size + 1) 0 (stA s (.slice o3 s.f.kids.length c3) (.slice o4 s.store.length c4) (.slice o5 s.out.length c5) (.slice o6 s.k.l.length c6)) (by rfl) (by rfl) (OT.out.there (by rfl)) (by kernel_rfl) (by simp [Value.oneCell']) ?_) | fail)
     revert HK
     generalize World.setCells _ _ _ _ = WW
     intro HK
     refine zae (by rfl) (by rfl) (by rfl) HK.out.1.range Tryz.underlying43 (by rfl) (by kernel_rfl) rfl ?_
     rw [EE.out.1,EE.out.2]
     exact ⟨_,_,_,_,rfl,⟨.inr HK.out.2.2.1,.inr HK.out.2.2.2.1,.inr HK.out.2.2.2.2.1,.inr HK.out.2.2.2.2.2⟩,HK.out.2.1⟩
   · cases hd:y.d
     · have EE:=y41h (EV.out rfl ⟨rfl,hd⟩)
       clear EV E2 hq
       go_wp2_with (first | (refine wpList_load_mid (by rfl) 43 _ (by rfl) w.heap.size 0 (by rfl) ((stA s (.slice of_ s.f.kids.length cf) (.slice os s.store.length cs) (.slice oo s.out.length co) (.slice ok s.k.l.length ck))).toList _ OA.out.range Tryz.underlying43 (by rfl) (by kernel_rfl) ?_) | fail)
       refine (VC _ (HW.out.later BE.out)).out.mono ?_
       rintro e w3 ⟨v3,v4,v5,v6,rfl,hn,hb⟩
       have hst:=hn.lies (HW.out.later BE.out).lf (HW.out.later BE.out).ls (HW.out.later BE.out).lo (HW.out.later BE.out).lk hb
       have hfv3:v3.oneCell' = true:=zar hst.lf
       have hsv3:v4.oneCell' = true:=(by obtain ⟨_,_,_,_,e,_⟩:=hst.ls;rw [e];rfl)
       have hov3:v5.oneCell' = true:=(by obtain ⟨_,_,_,_,e,_⟩:=hst.lo;rw [e];rfl)
       have hkv3:v6.oneCell' = true:=(by obtain ⟨_,_,e⟩:=hst.lk.val;rw [e];rfl)
       unfold Value.oneCell' at hfv3 hsv3 hov3 hkv3
       have zw:=OT.out.lt
       have zB:=BE.out.size
       clear lOA zOA lOX zOX lO6 zO6
       replace BE:=y41h (BE.out.trans (hb.mono BE.out.size))
       replace OT:=y41h (OT.out.later hb)
       have HK:=y41h (And.intro (OT.out.sets (stA U v3 v4 v5 v6).toList (by rfl)) (And.intro (zab (b:=w.heap.size + 1) (by omega) (stA U v3 v4 v5 v6).toList 0 BE.out) ((hn.sets zw (stA U v3 v4 v5 v6).toList).mono zB)))
       clear hn hb hst zw zB
       go_wp2_with (first | (refine wpList_store_mid (by rfl) 43 _ _ (by rfl) (w.heap.size + 1) 0 (stA U v3 v4 v5 v6) (by rfl) (by rfl) (OT.out.there (by rfl)) (by kernel_rfl) (by simp [Value.oneCell',hfv3,hsv3,hov3,hkv3]) ?_) | fail)
       revert HK
       generalize World.setCells _ _ _ _ = WW
       intro HK
       refine zae (by rfl) (by rfl) (by rfl) HK.out.1.range Tryz.underlying43 (by rfl) (by kernel_rfl) rfl ?_
       rw [EE.out.1,EE.out.2]
       exact ⟨v3,v4,v5,v6,rfl,HK.out.2.2,HK.out.2.1⟩
     · have EE:=y41h (E2.out rfl (by simp [hd]))
       clear EV E2 hq
       go_wp2_with (first | (refine wpList_load_mid (by rfl) 43 _ (by rfl) w.heap.size 0 (by rfl) ((stA s (.slice of_ s.f.kids.length cf) (.slice os s.store.length cs) (.slice oo s.out.length co) (.slice ok s.k.l.length ck))).toList _ OA.out.range Tryz.underlying43 (by rfl) (by kernel_rfl) ?_) | fail)
       refine (AG _ (HW.out.later BE.out)).out.mono ?_
       rintro e w3 ⟨v3,v4,v5,v6,rfl,hl,hr4,hr5,hk,hb⟩
       obtain ⟨o3,c3,rfl⟩:=zal hl.lp
       obtain ⟨o4,c4,rfl⟩:=hr4.row.val
       obtain ⟨o5,c5,rfl⟩:=hr5.row.val
       obtain ⟨o6,c6,rfl⟩:=hk.fr.val
       have zw:=OT.out.lt
       have zB:=BE.out.size
       clear lOA zOA lOX zOX lO6 zO6
       replace BE:=y41h (BE.out.trans (hb.mono BE.out.size))
       replace OT:=y41h (OT.out.later hb)
       have HK:=y41h (And.intro (OT.out.sets (stA s (.slice o3 s.f.kids.length c3) (.slice o4 s.store.length c4) (.slice o5 s.out.length c5) (.slice o6 s.k.l.length c6)).toList (by rfl)) (And.intro (zab (b:=w.heap.size + 1) (by omega) (stA s (.slice o3 s.f.kids.length c3) (.slice o4 s.store.length c4) (.slice o5 s.out.length c5) (.slice o6 s.k.l.length c6)).toList 0 BE.out) (And.intro ((hl.setsAt (b:=w.heap.size + 1) zw (stA s (.slice o3 s.f.kids.length c3) (.slice o4 s.store.length c4) (.slice o5 s.out.length c5) (.slice o6 s.k.l.length c6)).toList 0).mono' zB) (And.intro ((hr4.sets (b:=w.heap.size + 1) zw (stA s (.slice o3 s.f.kids.length c3) (.slice o4 s.store.length c4) (.slice o5 s.out.length c5) (.slice o6 s.k.l.length c6)).toList 0).mono zB) (And.intro ((hr5.sets (b:=w.heap.size + 1) zw (stA s (.slice o3 s.f.kids.length c3) (.slice o4 s.store.length c4) (.slice o5 s.out.length c5) (.slice o6 s.k.l.length c6)).toList 0).mono zB) ((hk.sets (b:=w.heap.size + 1) zw (stA s (.slice o3 s.f.kids.length c3) (.slice o4 s.store.length c4) (.slice o5 s.out.length c5) (.slice o6 s.k.l.length c6)).toList 0).mono zB))))))
       clear hl hr4 hr5 hk hb zw zB
       go_wp2_with (first | (refine wpList_store_mid (by rfl) 43 _ _ (by rfl) (w.heap.size + 1) 0 (stA s (.slice o3 s.f.kids.length c3) (.slice o4 s.store.length c4) (.slice o5 s.out.length c5) (.slice o6 s.k.l.length c6)) (by rfl) (by rfl) (OT.out.there (by rfl)) (by kernel_rfl) (by simp [Value.oneCell']) ?_) | fail)
       revert HK
       generalize World.setCells _ _ _ _ = WW
       intro HK
       refine zae (by rfl) (by rfl) (by rfl) HK.out.1.range Tryz.underlying43 (by rfl) (by kernel_rfl) rfl ?_
       rw [EE.out.1,EE.out.2]
       exact ⟨_,_,_,_,rfl,⟨.inr HK.out.2.2.1,.inr HK.out.2.2.2.1,.inr HK.out.2.2.2.2.1,.inr HK.out.2.2.2.2.2⟩,HK.out.2.1⟩
theorem zil (s:St) (fv sv ov kv:Value) (id:ByteArray) (w:World) (hS:StW w s fv sv ov kv) (hG:Good s) (hB:StB s) (hid:id.size ≤ maxLen) :
   Calls Tryz.prog 49 #[stV s fv sv ov kv,.string id] w (Told errI s.f fv s sv ov kv (delS s id) (delE s id) w):=by
 have hb1:=hB.f
 have hb2:=hB.ls
 have hb3:=hB.lo
 have hb4:=hB.kl
 have hb5:=hB.ki
 have AG:=fun w' h=>y41h (zdb s fv sv ov kv w' h (by omega) (by omega) (by omega) (by omega) (by omega))
 have GT:=fun w' h=>y41h (zn1 hG id ▸ zhr s fv sv ov kv id w' h hG.rs hG.ro (by omega) (by omega) hid)
 have VC:=fun (he:(zag s id).1.id = id) (hsz:(zag s id).1.id.size ≤ maxLen ∧ (zag s id).1.kd.size ≤ maxLen) w' h=>y41h (zdh s fv sv ov kv (zfb (zag s id).1) w' h hG hsz hb1 (by show (zaf (zap s.k (zag s id).1.id s.r (s.count + 1)).l).length ≤ 10000;rw [he,zch];omega) (by omega) (by omega))
 have hsz:=y41h (ziu hS id)
 have hid1:=y41h (show (zag s id).2 = true → (zag s id).1.id = id from zma)
 have FT:=fun w'=>y41h (zer id w')
 obtain ⟨of_,cf,rfl⟩:=zal hS.lf
 obtain ⟨os,cs,rfl⟩:=hS.ls.val
 obtain ⟨oo,co,rfl⟩:=hS.lo.val
 obtain ⟨ok,ck,rfl⟩:=hS.lk.val
 have HW:=y41h hS
 have E1:=y41h (ztb (s:=s) (id:=id))
 have E2:=y41h (ztc (s:=s) (id:=id))
 have EV:=y41h (z1h (s:=s) (id:=id))
 clear hS hG hB hb1 hb2 hb3 hb4 hb5 hid
 generalize delS s id = us at *
 generalize delE s id = ue at *
 generalize zaz id = bm at *
 generalize hq:zag s id = q at *
 obtain ⟨⟨y1,y2,y3,y4,y5,y6,y7,y8,yd⟩,bt⟩:=q
 have OA:=y41h ((Own.new w (stA s (.slice of_ s.f.kids.length cf) (.slice os s.store.length cs) (.slice oo s.out.length co) (.slice ok s.k.l.length ck)) 43).alloc (.cells stZ.toArray 43))
 have OT:=y41h (Own.newAt (w.alloc (.cells (stA s (.slice of_ s.f.kids.length cf) (.slice os s.store.length cs) (.slice oo s.out.length co) (.slice ok s.k.l.length ck)) 43)) stZ.toArray 43 (b:=w.heap.size + 1) (by simp))
 have BE:=y41h (((Below.refl w.heap.size w).alloc (Nat.le_refl _) (.cells (stA s (.slice of_ s.f.kids.length cf) (.slice os s.store.length cs) (.slice oo s.out.length co) (.slice ok s.k.l.length ck)) 43)).alloc (by simp) (.cells stZ.toArray 43))
 have lOA:=OA.out.cell
 have zOA:=OA.out.lt
 go_enter Tryz.func49,Tryz.ntmps49
 go_wp2_with (first | (refine wpList_load_mid (by rfl) 43 _ (by rfl) w.heap.size 0 (by rfl) ((stA s (.slice of_ s.f.kids.length cf) (.slice os s.store.length cs) (.slice oo s.out.length co) (.slice ok s.k.l.length ck))).toList _ OA.out.range Tryz.underlying43 (by rfl) (by kernel_rfl) ?_) | fail)
 refine (GT _ (HW.out.later BE.out)).out.mono ?_
 rintro e w1 ⟨rfl,hb⟩
 clear lOA zOA
 replace OA:=y41h (OA.out.later hb)
 replace OT:=y41h (OT.out.later hb)
 replace BE:=y41h (BE.out.trans (hb.mono BE.out.size))
 clear hb
 have O6:=y41h (Own.new w1 (iA (⟨y1,y2,y3,y4,y5,y6,y7,y8,yd⟩:Itm)) 69)
 have OA0:=OA
 have OT0:=OT
 have BE0:=BE
 replace BE:=y41h (BE.out.alloc (by have:=BE.out.size;omega) (.cells (iA (⟨y1,y2,y3,y4,y5,y6,y7,y8,yd⟩:Itm)) 69))
 replace OA:=y41h (OA.out.alloc (.cells (iA (⟨y1,y2,y3,y4,y5,y6,y7,y8,yd⟩:Itm)) 69))
 replace OT:=y41h (OT.out.alloc (.cells (iA (⟨y1,y2,y3,y4,y5,y6,y7,y8,yd⟩:Itm)) 69))
 have lOA:=OA.out.cell
 have zOA:=OA.out.lt
 go_wp2_with fail
 refine (FT _).out.mono ?_
 rintro e w2 ⟨rfl,rfl⟩
 clear lOA zOA
 have lOA:=OA.out.cell
 have zOA:=OA.out.lt
 have lO6:=O6.out.cell
 have zO6:=O6.out.lt
 cases bm
 · have EE:=y41h (And.intro (E1.out rfl).2 (E1.out rfl).1)
   clear E1 E2 EV hq VC
   go_wp2_with (first | (refine wpList_load_mid (by rfl) 43 _ (by rfl) w.heap.size 0 (by rfl) ((stA s (.slice of_ s.f.kids.length cf) (.slice os s.store.length cs) (.slice oo s.out.length co) (.slice ok s.k.l.length ck))).toList _ OA.out.range Tryz.underlying43 (by rfl) (by kernel_rfl) ?_) | fail)
   refine (AG _ (HW.out.later BE.out)).out.mono ?_
   rintro e w3 ⟨v3,v4,v5,v6,rfl,hl,hr4,hr5,hk,hb⟩
   obtain ⟨o3,c3,rfl⟩:=zal hl.lp
   obtain ⟨o4,c4,rfl⟩:=hr4.row.val
   obtain ⟨o5,c5,rfl⟩:=hr5.row.val
   obtain ⟨o6,c6,rfl⟩:=hk.fr.val
   have zw:=OT.out.lt
   have zB:=BE.out.size
   clear lOA zOA lO6 zO6
   replace BE:=y41h (BE.out.trans (hb.mono BE.out.size))
   replace OT:=y41h (OT.out.later hb)
   have HK:=y41h (And.intro (OT.out.sets (stA s (.slice o3 s.f.kids.length c3) (.slice o4 s.store.length c4) (.slice o5 s.out.length c5) (.slice o6 s.k.l.length c6)).toList (by rfl)) (And.intro (zab (b:=w.heap.size + 1) (by omega) (stA s (.slice o3 s.f.kids.length c3) (.slice o4 s.store.length c4) (.slice o5 s.out.length c5) (.slice o6 s.k.l.length c6)).toList 0 BE.out) (And.intro ((hl.setsAt (b:=w.heap.size + 1) zw (stA s (.slice o3 s.f.kids.length c3) (.slice o4 s.store.length c4) (.slice o5 s.out.length c5) (.slice o6 s.k.l.length c6)).toList 0).mono' zB) (And.intro ((hr4.sets (b:=w.heap.size + 1) zw (stA s (.slice o3 s.f.kids.length c3) (.slice o4 s.store.length c4) (.slice o5 s.out.length c5) (.slice o6 s.k.l.length c6)).toList 0).mono zB) (And.intro ((hr5.sets (b:=w.heap.size + 1) zw (stA s (.slice o3 s.f.kids.length c3) (.slice o4 s.store.length c4) (.slice o5 s.out.length c5) (.slice o6 s.k.l.length c6)).toList 0).mono zB) ((hk.sets (b:=w.heap.size + 1) zw (stA s (.slice o3 s.f.kids.length c3) (.slice o4 s.store.length c4) (.slice o5 s.out.length c5) (.slice o6 s.k.l.length c6)).toList 0).mono zB))))))
   clear hl hr4 hr5 hk hb zw zB
   go_wp2_with (first | (refine wpList_store_mid (by rfl) 43 _ _ (by rfl) (w.heap.size + 1) 0 (stA s (.slice o3 s.f.kids.length c3) (.slice o4 s.store.length c4) (.slice o5 s.out.length c5) (.slice o6 s.k.l.length c6)) (by rfl) (by rfl) (OT.out.there (by rfl)) (by kernel_rfl) (by simp [Value.oneCell']) ?_) | fail)
   revert HK
   generalize World.setCells _ _ _ _ = WW
   intro HK
   refine zae (by rfl) (by rfl) (by rfl) HK.out.1.range Tryz.underlying43 (by rfl) (by kernel_rfl) rfl ?_
   rw [EE.out.1,EE.out.2]
   exact ⟨_,_,_,_,rfl,⟨.inr HK.out.2.2.1,.inr HK.out.2.2.2.1,.inr HK.out.2.2.2.2.1,.inr HK.out.2.2.2.2.2⟩,HK.out.2.1⟩
 · clear E1
   cases bt
   · have EE:=y41h (And.intro (E2.out rfl (by simp)).2 (E2.out rfl (by simp)).1)
     clear EV E2 hq VC
     go_wp2_with (first | (refine wpList_load_mid (by rfl) 43 _ (by rfl) w.heap.size 0 (by rfl) ((stA s (.slice of_ s.f.kids.length cf) (.slice os s.store.length cs) (.slice oo s.out.length co) (.slice ok s.k.l.length ck))).toList _ OA.out.range Tryz.underlying43 (by rfl) (by kernel_rfl) ?_) | fail)
     refine (AG _ (HW.out.later BE.out)).out.mono ?_
     rintro e w3 ⟨v3,v4,v5,v6,rfl,hl,hr4,hr5,hk,hb⟩
     obtain ⟨o3,c3,rfl⟩:=zal hl.lp
     obtain ⟨o4,c4,rfl⟩:=hr4.row.val
     obtain ⟨o5,c5,rfl⟩:=hr5.row.val
     obtain ⟨o6,c6,rfl⟩:=hk.fr.val
     have zw:=OT.out.lt
     have zB:=BE.out.size
     clear lOA zOA lO6 zO6
     replace BE:=y41h (BE.out.trans (hb.mono BE.out.size))
     replace OT:=y41h (OT.out.later hb)
     have HK:=y41h (And.intro (OT.out.sets (stA s (.slice o3 s.f.kids.length c3) (.slice o4 s.store.length c4) (.slice o5 s.out.length c5) (.slice o6 s.k.l.length c6)).toList (by rfl)) (And.intro (zab (b:=w.heap.size + 1) (by omega) (stA s (.slice o3 s.f.kids.length c3) (.slice o4 s.store.length c4) (.slice o5 s.out.length c5) (.slice o6 s.k.l.length c6)).toList 0 BE.out) (And.intro ((hl.setsAt (b:=w.heap.size + 1) zw (stA s (.slice o3 s.f.kids.length c3) (.slice o4 s.store.length c4) (.slice o5 s.out.length c5) (.slice o6 s.k.l.length c6)).toList 0).mono' zB) (And.intro ((hr4.sets (b:=w.heap.size + 1) zw (stA s (.slice o3 s.f.kids.length c3) (.slice o4 s.store.length c4) (.slice o5 s.out.length c5) (.slice o6 s.k.l.length c6)).toList 0).mono zB) (And.intro ((hr5.sets (b:=w.heap.size + 1) zw (stA s (.slice o3 s.f.kids.length c3) (.slice o4 s.store.length c4) (.slice o5 s.out.length c5) (.slice o6 s.k.l.length c6)).toList 0).mono zB) ((hk.sets (b:=w.heap.size + 1) zw (stA s (.slice o3 s.f.kids.length c3) (.slice o4 s.store.length c4) (.slice o5 s.out.length c5) (.slice o6 s.k.l.length c6)).toList 0).mono zB))))))
     clear hl hr4 hr5 hk hb zw zB
     go_wp2_with (first | (refine wpList_store_mid (by rfl) 43 _ _ (by rfl) (w.heap.size + 1) 0 (stA s (.slice o3 s.f.kids.length c3) (.slice o4 s.store.length c4) (.slice o5 s.out.length c5) (.slice o6 s.k.l.length c6)) (by rfl) (by rfl) (OT.out.there (by rfl)) (by kernel_rfl) (by simp [Value.oneCell']) ?_) | fail)
     revert HK
     generalize World.setCells _ _ _ _ = WW
     intro HK
     refine zae (by rfl) (by rfl) (by rfl) HK.out.1.range Tryz.underlying43 (by rfl) (by kernel_rfl) rfl ?_
     rw [EE.out.1,EE.out.2]
     exact ⟨_,_,_,_,rfl,⟨.inr HK.out.2.2.1,.inr HK.out.2.2.2.1,.inr HK.out.2.2.2.2.1,.inr HK.out.2.2.2.2.2⟩,HK.out.2.1⟩
   · cases yd
     · have EE:=y41h (EV.out rfl ⟨rfl,rfl⟩)
       clear EV E2 hq
       replace VC:=VC (hid1.out rfl) hsz.out
       change ∀ w',_ → Hid (Calls Tryz.prog 70 #[stV s (.slice of_ s.f.kids.length cf) (.slice os s.store.length cs) (.slice oo s.out.length co) (.slice ok s.k.l.length ck),iV ⟨y1,y2,y3,y4,y5,y6,y7,y8,true⟩] w' (Told errI s.f (.slice of_ s.f.kids.length cf) s (.slice os s.store.length cs) (.slice oo s.out.length co) (.slice ok s.k.l.length ck) (verS s ⟨y1,y2,y3,y4,y5,y6,y7,y8,true⟩) (verE s) w')) at VC
       change Hid (us = verS s ⟨y1,y2,y3,y4,y5,y6,y7,y8,true⟩ ∧ ue = verE s) at EE
       generalize verS s ⟨y1,y2,y3,y4,y5,y6,y7,y8,true⟩ = U at *
       generalize verE s = VE at *
       clear lOA zOA lO6 zO6
       have OD:=y41h (Own.new w1 (iA (⟨y1,y2,y3,y4,y5,y6,y7,y8,true⟩:Itm)) 69)
       clear O6
       have OA:=y41h (OA0.out.alloc (.cells (iA (⟨y1,y2,y3,y4,y5,y6,y7,y8,true⟩:Itm)) 69))
       have OT:=y41h (OT0.out.alloc (.cells (iA (⟨y1,y2,y3,y4,y5,y6,y7,y8,true⟩:Itm)) 69))
       have BE:=y41h (BE0.out.alloc (by have:=BE0.out.size;omega) (.cells (iA (⟨y1,y2,y3,y4,y5,y6,y7,y8,true⟩:Itm)) 69))
       clear OA0 OT0 BE0
       have lOA:=OA.out.cell
       have zOA:=OA.out.lt
       have lOD:=OD.out.cell
       have zOD:=OD.out.lt
       go_wp2_with (first | (refine wpList_load_mid (by rfl) 43 _ (by rfl) w.heap.size 0 (by rfl) ((stA s (.slice of_ s.f.kids.length cf) (.slice os s.store.length cs) (.slice oo s.out.length co) (.slice ok s.k.l.length ck))).toList _ OA.out.range Tryz.underlying43 (by rfl) (by kernel_rfl) ?_) | fail)
       refine (VC _ (HW.out.later BE.out)).out.mono ?_
       rintro e w3 ⟨v3,v4,v5,v6,rfl,hn,hb⟩
       have hst:=hn.lies (HW.out.later BE.out).lf (HW.out.later BE.out).ls (HW.out.later BE.out).lo (HW.out.later BE.out).lk hb
       have hfv3:v3.oneCell' = true:=zar hst.lf
       have hsv3:v4.oneCell' = true:=(by obtain ⟨_,_,_,_,e,_⟩:=hst.ls;rw [e];rfl)
       have hov3:v5.oneCell' = true:=(by obtain ⟨_,_,_,_,e,_⟩:=hst.lo;rw [e];rfl)
       have hkv3:v6.oneCell' = true:=(by obtain ⟨_,_,e⟩:=hst.lk.val;rw [e];rfl)
       unfold Value.oneCell' at hfv3 hsv3 hov3 hkv3
       have zw:=OT.out.lt
       have zB:=BE.out.size
       clear lOA zOA lOD zOD
       replace BE:=y41h (BE.out.trans (hb.mono BE.out.size))
       replace OT:=y41h (OT.out.later hb)
       have HK:=y41h (And.intro (OT.out.sets (stA U v3 v4 v5 v6).toList (by rfl)) (And.intro (zab (b:=w.heap.size + 1) (by omega) (stA U v3 v4 v5 v6).toList 0 BE.out) ((hn.sets zw (stA U v3 v4 v5 v6).toList).mono zB)))
       clear hn hb hst zw zB
       go_wp2_with (first | (refine wpList_store_mid (by rfl) 43 _ _ (by rfl) (w.heap.size + 1) 0 (stA U v3 v4 v5 v6) (by rfl) (by rfl) (OT.out.there (by rfl)) (by kernel_rfl) (by simp [Value.oneCell',hfv3,hsv3,hov3,hkv3]) ?_) | fail)
       revert HK
       generalize World.setCells _ _ _ _ = WW
       intro HK
       refine zae (by rfl) (by rfl) (by rfl) HK.out.1.range Tryz.underlying43 (by rfl) (by kernel_rfl) rfl ?_
       rw [EE.out.1,EE.out.2]
       exact ⟨v3,v4,v5,v6,rfl,HK.out.2.2,HK.out.2.1⟩
     · have EE:=y41h (And.intro (E2.out rfl (by simp)).2 (E2.out rfl (by simp)).1)
       clear EV E2 hq VC
       go_wp2_with (first | (refine wpList_load_mid (by rfl) 43 _ (by rfl) w.heap.size 0 (by rfl) ((stA s (.slice of_ s.f.kids.length cf) (.slice os s.store.length cs) (.slice oo s.out.length co) (.slice ok s.k.l.length ck))).toList _ OA.out.range Tryz.underlying43 (by rfl) (by kernel_rfl) ?_) | fail)
       refine (AG _ (HW.out.later BE.out)).out.mono ?_
       rintro e w3 ⟨v3,v4,v5,v6,rfl,hl,hr4,hr5,hk,hb⟩
       obtain ⟨o3,c3,rfl⟩:=zal hl.lp
       obtain ⟨o4,c4,rfl⟩:=hr4.row.val
       obtain ⟨o5,c5,rfl⟩:=hr5.row.val
       obtain ⟨o6,c6,rfl⟩:=hk.fr.val
       have zw:=OT.out.lt
       have zB:=BE.out.size
       clear lOA zOA lO6 zO6
       replace BE:=y41h (BE.out.trans (hb.mono BE.out.size))
       replace OT:=y41h (OT.out.later hb)
       have HK:=y41h (And.intro (OT.out.sets (stA s (.slice o3 s.f.kids.length c3) (.slice o4 s.store.length c4) (.slice o5 s.out.length c5) (.slice o6 s.k.l.length c6)).toList (by rfl)) (And.intro (zab (b:=w.heap.size + 1) (by omega) (stA s (.slice o3 s.f.kids.length c3) (.slice o4 s.store.length c4) (.slice o5 s.out.length c5) (.slice o6 s.k.l.length c6)).toList 0 BE.out) (And.intro ((hl.setsAt (b:=w.heap.size + 1) zw (stA s (.slice o3 s.f.kids.length c3) (.slice o4 s.store.length c4) (.slice o5 s.out.length c5) (.slice o6 s.k.l.length c6)).toList 0).mono' zB) (And.intro ((hr4.sets (b:=w.heap.size + 1) zw (stA s (.slice o3 s.f.kids.length c3) (.slice o4 s.store.length c4) (.slice o5 s.out.length c5) (.slice o6 s.k.l.length c6)).toList 0).mono zB) (And.intro ((hr5.sets (b:=w.heap.size + 1) zw (stA s (.slice o3 s.f.kids.length c3) (.slice o4 s.store.length c4) (.slice o5 s.out.length c5) (.slice o6 s.k.l.length c6)).toList 0).mono zB) ((hk.sets (b:=w.heap.size + 1) zw (stA s (.slice o3 s.f.kids.length c3) (.slice o4 s.store.length c4) (.slice o5 s.out.length c5) (.slice o6 s.k.l.length c6)).toList 0).mono zB))))))
       clear hl hr4 hr5 hk hb zw zB
       go_wp2_with (first | (refine wpList_store_mid (by rfl) 43 _ _ (by rfl) (w.heap.size + 1) 0 (stA s (.slice o3 s.f.kids.length c3) (.slice o4 s.store.length c4) (.slice o5 s.out.length c5) (.slice o6 s.k.l.length c6)) (by rfl) (by rfl) (OT.out.there (by rfl)) (by kernel_rfl) (by simp [Value.oneCell']) ?_) | fail)
       revert HK
       generalize World.setCells _ _ _ _ = WW
       intro HK
       refine zae (by rfl) (by rfl) (by rfl) HK.out.1.range Tryz.underlying43 (by rfl) (by kernel_rfl) rfl ?_
       rw [EE.out.1,EE.out.2]
       exact ⟨_,_,_,_,rfl,⟨.inr HK.out.2.2.1,.inr HK.out.2.2.2.1,.inr HK.out.2.2.2.2.1,.inr HK.out.2.2.2.2.2⟩,HK.out.2.1⟩
end Go.Proofs.YthnllikalobmeaaGreat
