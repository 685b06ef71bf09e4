/- Joined: RefSt10. -/
import Derived.Test.YthnllikalobmeaaGreatJ24
namespace Go.Proofs.YthnllikalobmeaaGreat
set_option linter.unusedVariables false
set_option linter.unusedSimpArgs false
set_option maxRecDepth 100000
set_option maxHeartbeats 8000000
open Go.RowKit
theorem y26h {p:Prop} (h:p):Hid p:=Lib.hid h
abbrev zgv (i:Itm):Itm:=⟨i.id,i.r,i.c,i.st,i.kd,i.num,i.x,i.y,true⟩
def delE (s:St) (id:ByteArray):Int:=if zay id = true then (if (zaf s id).2 = true ∧ (zaf s id).1.d = false then (if zbe s = true then 5 else 0) else 2) else 1
def delS (s:St) (id:ByteArray):St:=if delE s id = 0 then za0 s (zgv (zaf s id).1) else s
theorem zt2 {s:St} {id:ByteArray} (h:zay id = false):delE s id = 1 ∧ delS s id = s:=by
 have e:delE s id = 1:=by unfold delE;rw [if_neg (by simp [h])]
 exact ⟨e,by unfold delS;rw [e,if_neg (by decide)]⟩
theorem zt3 {s:St} {id:ByteArray} (h:zay id = true) (h2:¬((zaf s id).2 = true ∧ (zaf s id).1.d = false)):delE s id = 2 ∧ delS s id = s:=by
 have e:delE s id = 2:=by unfold delE;rw [if_pos h,if_neg h2]
 exact ⟨e,by unfold delS;rw [e,if_neg (by decide)]⟩
theorem z0m {s:St} {id:ByteArray} (h:zay id = true) (h2:(zaf s id).2 = true ∧ (zaf s id).1.d = false) (h3:zbe s = true):delE s id = 5 ∧ delS s id = s:=by
 have e:delE s id = 5:=by unfold delE;rw [if_pos h,if_pos h2,if_pos h3]
 exact ⟨e,by unfold delS;rw [e,if_neg (by decide)]⟩
theorem z0n {s:St} {id:ByteArray} (h:zay id = true) (h2:(zaf s id).2 = true ∧ (zaf s id).1.d = false) (h3:zbe s = false):delE s id = 0 ∧ delS s id = za0 s (zgv (zaf s id).1):=by
 have e:delE s id = 0:=by unfold delE;rw [if_pos h,if_pos h2,if_neg (by simp [h3])]
 exact ⟨e,by unfold delS;rw [e,if_pos rfl]⟩
theorem zmw {s:St} {id:ByteArray} (h:(zaf s id).2 = true):(zaf s id).1.id = id:=by
 unfold zaf at *
 rcases zcr (zat behT s.store s.out) id with ⟨i,_,e,hg⟩ | ⟨_,hg⟩
 · rw [hg];exact e
 · rw [hg] at h;cases h
theorem zjg {s:St} {fv sv ov kv:Value} {w:World} (hS:StW w s fv sv ov kv) (id:ByteArray):(zaf s id).1.id.size ≤ maxLen ∧ (zaf s id).1.kd.size ≤ maxLen:=by
 unfold zaf
 rcases zcr (zat behT s.store s.out) id with ⟨i,hi,_,hg⟩ | ⟨_,hg⟩
 · rw [hg]
   rcases zn4 s.out hi with h | h
   · exact hS.ls.oks i h
   · exact hS.lo.oks i h
 · rw [hg];exact ⟨by decide,by decide⟩
theorem zk6 (s:St) (fv sv ov kv:Value) (id:ByteArray) (w:World) (hS:StW w s fv sv ov kv) (hid:id.size ≤ maxLen) (hf:s.f.size ≤ 1000) (h1:s.store.length ≤ 1000) (h2:s.out.length ≤ 1000)
   (hk1:(zag (zap s.k id s.r (s.count + 1)).l).length ≤ 10000) (hk2:s.k.l.length ≤ 10000) (hk3:(zag s.k.l).length ≤ 10000) (hc:0 ≤ s.count ∧ s.count ≤ 1000) (ht:0 ≤ s.clock ∧ s.clock ≤ 1000000) :
   Calls Tryz.prog 53 #[stV s fv sv ov kv,.string id] w fun e w' =>
     ∃ sv' ov' kv',e = .returned (.tuple #[stV (delS s id) fv sv' ov' kv',.int .i64 (delE s id)]) ∧ StW w' (delS s id) fv sv' ov' kv' ∧ StX w' w.heap.size s (delS s id) sv ov kv sv' ov' kv' ∧ Below w.heap.size w w':=by
 have OA:=y26h ((Own.new w (stA s fv sv ov kv) 43).alloc (.cells stZ.toArray 43))
 have OT:=y26h (Own.newAt (w.alloc (.cells (stA s fv sv ov kv) 43)) stZ.toArray 43 (b:=w.heap.size + 1) (by simp))
 have BEL:=y26h (((Below.refl w.heap.size w).alloc (Nat.le_refl _) (.cells (stA s fv sv ov kv) 43)).alloc (by simp) (.cells stZ.toArray 43))
 have HW:=y26h hS
 have hfv:fv.oneCell' = true:=zar hS.lf
 have hsv:sv.oneCell' = true:=by obtain ⟨_,_,_,_,e,_⟩:=hS.ls;rw [e];rfl
 have hov:ov.oneCell' = true:=by obtain ⟨_,_,_,_,e,_⟩:=hS.lo;rw [e];rfl
 have hkv:kv.oneCell' = true:=by obtain ⟨_,_,e⟩:=hS.lk.val;rw [e];rfl
 unfold Value.oneCell' at hfv hsv hov hkv
 have hsz:=zjg hS id
 clear hS
 have CN:=fun w'=>y26h (zes id w' hid)
 have CD:=fun w' (hb:Below w.heap.size w w')=>y26h (zd0 s fv sv ov kv id w' (HW.out.later hb) h1 h2)
 have CM:=fun (hok:(zaf s id).2 = true) w' (hb:Below w.heap.size w w')=>y26h (zeo s fv sv ov kv (zgv (zaf s id).1) w' (HW.out.later hb) hsz hf h1 h2 (by show (zag (zap s.k (zaf s id).1.id s.r (s.count + 1)).l).length ≤ 10000;rw [zmw hok];exact hk1) hk2 hk3 hc ht)
 have EA:=y26h (zt2 (s:=s) (id:=id))
 have EB:=y26h (zt3 (s:=s) (id:=id))
 have EC:=y26h (z0m (s:=s) (id:=id))
 have ED:=y26h (z0n (s:=s) (id:=id))
 clear hf h1 h2 hk1 hk2 hk3 hc ht hsz
 generalize zay id = m at EA EB EC ED CN
 generalize hhd:(zaf s id).1 = hd at EB EC ED CD CM
 generalize hok:(zaf s id).2 = ok at EB EC ED CD CM
 clear hhd hok
 generalize delE s id = ue at *
 generalize delS s id = us at *
 cases m with
 | false =>
   have E:=y26h (EA.out rfl)
   clear EA EB EC ED
   rw [E.out.1,E.out.2]
   clear E
   go_enter Tryz.func53,Tryz.ntmps53
   go_wp2_with (first | (go_at_call 91;refine (CN _).out.mono ?_;rintro e w1 ⟨rfl,rfl⟩) | (refine wpList_load_mid (by rfl) 43 _ (by rfl) w.heap.size 0 (by rfl) (stA s fv sv ov kv).toList _ OA.out.range Tryz.underlying43 (by rfl) (by kernel_rfl) ?_) | (refine wpList_store_mid (by rfl) 43 _ _ (by rfl) (w.heap.size + 1) 0 (stA s fv sv ov kv) (by rfl) (by rfl) (OT.out.there (by rfl)) (by kernel_rfl) (by simp [Value.oneCell',hfv,hsv,hov,hkv]) ?_) | fail)
   have HK:=y26h (And.intro (OT.out.sets (stA s fv sv ov kv).toList (by rfl)) (zab (b:=w.heap.size + 1) (by omega) (stA s fv sv ov kv).toList 0 BEL.out))
   clear OA OT BEL
   revert HK
   generalize World.setCells _ _ _ _ = WW
   intro HK
   exact zae (by rfl) (by rfl) (by rfl) HK.out.1.range Tryz.underlying43 (by rfl) (by kernel_rfl) rfl ⟨sv,ov,kv,rfl,HW.out.later HK.out.2,.refl _ _ _ _ _ _,HK.out.2⟩
 | true =>
   clear EA
   have E:=y26h (EB.out rfl)
   clear EB
   by_cases hw:ok = true ∧ hd.d = false
   · replace EC:=y26h (EC.out rfl hw)
     replace ED:=y26h (ED.out rfl hw)
     clear E
     obtain ⟨rfl,hd0⟩:=hw
     have CM2:=fun w' (hb:Below w.heap.size w w')=>y26h (show Calls Tryz.prog 101 #[stV s fv sv ov kv,iV (zgv hd)] w' (fun e w''=>∃ sv' ov' kv',e = .returned (.tuple #[stV us fv sv' ov' kv',.int .i64 ue]) ∧ StX w'' w'.heap.size s us sv ov kv sv' ov' kv' ∧ Below w'.heap.size w' w'') from (CM rfl w' hb).out.mono fun e w'' h=>by
       rcases h with ⟨hf,he,hb2⟩ | ⟨hf,sv',ov',kv',he,hst,hr,hb2⟩
       · rw [(EC.out hf).1,(EC.out hf).2]
         exact ⟨sv,ov,kv,he,.refl _ _ _ _ _ _,hb2⟩
       · rw [(ED.out hf).1,(ED.out hf).2]
         exact ⟨sv',ov',kv',he,.inr ⟨rfl,hr⟩,hb2⟩)
     clear CM EC ED
     obtain ⟨x1,x2,x3,x4,x5,x6,x7,x8,xd⟩:=hd
     change xd = false at hd0
     subst hd0
     go_enter Tryz.func53,Tryz.ntmps53
     go_wp2_with (first | (go_at_call 91;refine (CN _).out.mono ?_;rintro e w1 ⟨rfl,rfl⟩) | (go_at_call 25;refine (CD _ BEL.out).out.mono ?_;rintro e w2 ⟨rfl,hb⟩;replace OA:=y26h ((OA.out.later hb).alloc (.cells (iA (⟨x1,x2,x3,x4,x5,x6,x7,x8,true⟩:Itm)) 69));replace OT:=y26h ((OT.out.later hb).alloc (.cells (iA (⟨x1,x2,x3,x4,x5,x6,x7,x8,true⟩:Itm)) 69));replace BEL:=y26h ((BEL.out.trans (hb.mono BEL.out.size)).alloc ((BEL.out.trans (hb.mono BEL.out.size)).size) (.cells (iA (⟨x1,x2,x3,x4,x5,x6,x7,x8,true⟩:Itm)) 69));clear hb) | (go_at_call 101;refine (CM2 _ BEL.out).out.mono ?_;rintro e w3 ⟨sv',ov',kv',rfl,hx,hb⟩;have hst:=hx.lies HW.out (BEL.out.trans (hb.mono BEL.out.size));have hBs:=OT.out.lt;have hfv3:fv.oneCell' = true:=zar hst.lf;have hsv3:sv'.oneCell' = true:=(by obtain ⟨_,_,_,_,e,_⟩:=hst.ls;rw [e];rfl);have hov3:ov'.oneCell' = true:=(by obtain ⟨_,_,_,_,e,_⟩:=hst.lo;rw [e];rfl);have hkv3:kv'.oneCell' = true:=(by obtain ⟨_,_,e⟩:=hst.lk.val;rw [e];rfl);unfold Value.oneCell' at hfv3 hsv3 hov3 hkv3;have HST:=y26h hx;have HBS:=y26h hBs;have BE2:=y26h (BEL.out.trans (hb.mono BEL.out.size));have OT2:=y26h (OT.out.later hb);clear hst hx hb hBs) | (refine wpList_load_mid (by rfl) 43 _ (by rfl) w.heap.size 0 (by rfl) (stA s fv sv ov kv).toList _ OA.out.range Tryz.underlying43 (by rfl) (by kernel_rfl) ?_) | (refine wpList_store_mid (by rfl) 43 _ _ (by rfl) (w.heap.size + 1) 0 (stA us fv sv' ov' kv') (by rfl) (by rfl) (OT2.out.there (by rfl)) (by kernel_rfl) (by simp [Value.oneCell',hfv3,hsv3,hov3,hkv3]) ?_) | fail)
     have HK:=y26h (And.intro (OT2.out.sets (stA us fv sv' ov' kv').toList (by rfl)) (And.intro (zab (b:=w.heap.size + 1) (by omega) (stA us fv sv' ov' kv').toList 0 BE2.out) (HST.out.sets HBS.out (stA us fv sv' ov' kv').toList)))
     have hle:=BEL.out.size
     clear OA OT BEL OT2 BE2 HST
     revert HK
     generalize World.setCells _ _ _ _ = WW
     intro HK
     exact zae (by rfl) (by rfl) (by rfl) HK.out.1.range Tryz.underlying43 (by rfl) (by kernel_rfl) rfl ⟨sv',ov',kv',rfl,HK.out.2.2.lies HW.out HK.out.2.1,HK.out.2.2.mono hle,HK.out.2.1⟩
   · rw [(E.out hw).1,(E.out hw).2]
     clear E EC ED CM
     have hways:ok = false ∨ (ok = true ∧ hd.d = true):=by
       cases ok with
       | false=>exact .inl rfl
       | true =>
         refine .inr ⟨rfl,?_⟩
         cases hq:hd.d with
         | false=>exact absurd ⟨rfl,hq⟩ hw
         | true=>rfl
     clear hw
     obtain ⟨x1,x2,x3,x4,x5,x6,x7,x8,xd⟩:=hd
     change ok = false ∨ (ok = true ∧ xd = true) at hways
     rcases hways with rfl | ⟨rfl,rfl⟩
     · go_enter Tryz.func53,Tryz.ntmps53
       go_wp2_with (first | (go_at_call 91;refine (CN _).out.mono ?_;rintro e w1 ⟨rfl,rfl⟩) | (go_at_call 25;refine (CD _ BEL.out).out.mono ?_;rintro e w2 ⟨rfl,hb⟩;replace OA:=y26h ((OA.out.later hb).alloc (.cells (iA (⟨x1,x2,x3,x4,x5,x6,x7,x8,xd⟩:Itm)) 69));replace OT:=y26h ((OT.out.later hb).alloc (.cells (iA (⟨x1,x2,x3,x4,x5,x6,x7,x8,xd⟩:Itm)) 69));replace BEL:=y26h ((BEL.out.trans (hb.mono BEL.out.size)).alloc ((BEL.out.trans (hb.mono BEL.out.size)).size) (.cells (iA (⟨x1,x2,x3,x4,x5,x6,x7,x8,xd⟩:Itm)) 69));clear hb) | (refine wpList_load_mid (by rfl) 43 _ (by rfl) w.heap.size 0 (by rfl) (stA s fv sv ov kv).toList _ OA.out.range Tryz.underlying43 (by rfl) (by kernel_rfl) ?_) | (refine wpList_store_mid (by rfl) 43 _ _ (by rfl) (w.heap.size + 1) 0 (stA s fv sv ov kv) (by rfl) (by rfl) (OT.out.there (by rfl)) (by kernel_rfl) (by simp [Value.oneCell',hfv,hsv,hov,hkv]) ?_) | fail)
       have HK:=y26h (And.intro (OT.out.sets (stA s fv sv ov kv).toList (by rfl)) (zab (b:=w.heap.size + 1) (by omega) (stA s fv sv ov kv).toList 0 BEL.out))
       clear OA OT BEL
       revert HK
       generalize World.setCells _ _ _ _ = WW
       intro HK
       exact zae (by rfl) (by rfl) (by rfl) HK.out.1.range Tryz.underlying43 (by rfl) (by kernel_rfl) rfl ⟨sv,ov,kv,rfl,HW.out.later HK.out.2,.refl _ _ _ _ _ _,HK.out.2⟩
     · go_enter Tryz.func53,Tryz.ntmps53
       go_wp2_with (first | (go_at_call 91;refine (CN _).out.mono ?_;rintro e w1 ⟨rfl,rfl⟩) | (go_at_call 25;refine (CD _ BEL.out).out.mono ?_;rintro e w2 ⟨rfl,hb⟩;replace OA:=y26h ((OA.out.later hb).alloc (.cells (iA (⟨x1,x2,x3,x4,x5,x6,x7,x8,true⟩:Itm)) 69));replace OT:=y26h ((OT.out.later hb).alloc (.cells (iA (⟨x1,x2,x3,x4,x5,x6,x7,x8,true⟩:Itm)) 69));replace BEL:=y26h ((BEL.out.trans (hb.mono BEL.out.size)).alloc ((BEL.out.trans (hb.mono BEL.out.size)).size) (.cells (iA (⟨x1,x2,x3,x4,x5,x6,x7,x8,true⟩:Itm)) 69));clear hb) | (refine wpList_load_mid (by rfl) 43 _ (by rfl) w.heap.size 0 (by rfl) (stA s fv sv ov kv).toList _ OA.out.range Tryz.underlying43 (by rfl) (by kernel_rfl) ?_) | (refine wpList_store_mid (by rfl) 43 _ _ (by rfl) (w.heap.size + 1) 0 (stA s fv sv ov kv) (by rfl) (by rfl) (OT.out.there (by rfl)) (by kernel_rfl) (by simp [Value.oneCell',hfv,hsv,hov,hkv]) ?_) | fail)
       have HK:=y26h (And.intro (OT.out.sets (stA s fv sv ov kv).toList (by rfl)) (zab (b:=w.heap.size + 1) (by omega) (stA s fv sv ov kv).toList 0 BEL.out))
       clear OA OT BEL
       revert HK
       generalize World.setCells _ _ _ _ = WW
       intro HK
       exact zae (by rfl) (by rfl) (by rfl) HK.out.1.range Tryz.underlying43 (by rfl) (by kernel_rfl) rfl ⟨sv,ov,kv,rfl,HW.out.later HK.out.2,.refl _ _ _ _ _ _,HK.out.2⟩
end Go.Proofs.YthnllikalobmeaaGreat
