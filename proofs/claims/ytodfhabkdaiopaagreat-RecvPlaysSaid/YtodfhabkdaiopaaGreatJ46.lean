/- Joined: LocFil. -/
import Derived.Test.YtodfhabkdaiopaaGreatJ42
import Derived.Test.YtodfhabkdaiopaaGreatJ41
import Derived.Test.YtodfhabkdaiopaaGreatJ23
import Derived.Test.YtodfhabkdaiopaaGreatJ30
import Derived.Test.YtodfhabkdaiopaaGreatJ15
import Derived.Test.YtodfhabkdaiopaaGreatJ21
import Derived.Deep.AppendLies
namespace Go.Proofs.YtodfhabkdaiopaaGreat
set_option linter.unusedVariables false
set_option linter.unusedSimpArgs false
set_option maxRecDepth 100000
set_option maxHeartbeats 8000000
open Go.RowKit
abbrev y46a:=@List.getElem_toArray
abbrev y46b:=@List.getElem_cons_zero
abbrev y46c:=@List.getElem_cons_succ
abbrev y46d:=@List.setIfInBounds_toArray
abbrev y46e:=@List.set_cons_zero
abbrev y46f:=@List.set_cons_succ
theorem y46h {p:Prop} (h:p):Go.RowKit.Hid p:=Lib.hid h
theorem zjq (s:St) (fv sv ov kv:Value) (f:Pr) (gv:Value) (w:World) (hS:StW w s fv sv ov kv) (hG:Good s) (hB:StB s) (hL:LP w f gv) (hf:f.size≤60) :
   Calls Tryz.prog 77 #[stV s fv sv ov kv,prV f gv] w (Told errI s.f fv s sv ov kv (filS s f) (filE s f) w):=by
 have hb1:=hB.f
 have hb2:=hB.ls
 have hb3:=hB.lo
 have hb4:=hB.kl
 have hb5:=hB.ki
 have AG:=fun w' h=>y46h (zdf s fv sv ov kv w' h (by omega) (by omega) (by omega) (by omega) (by omega))
 have CM:=fun w' h=>y46h (ze1 f gv w' h)
 have CF:=fun w' h=>y46h (zdz f gv w' h (by omega))
 have CBO:=fun w' h h'=>y46h (zgh s.store s.out sv ov w' h h' hG.rs hG.ro (by omega) (by omega))
 have he1:=hG.e.2
 have he0:=hG.e.1
 have EA:=y46h (zti (s:=s) (f:=f))
 have EB:=y46h (ztj (s:=s) (f:=f))
 have EC:=y46h (show Pr.mayB f=true→¬(s.f.op=1∧f.op ≠ 1)→s.epoch ≠ 1000000→filS s f=filC s f∧filE s f=0 from fun h1 h2 h3=>⟨(zn3 h1 h2 h3).2.trans (zqo hG f),(zn3 h1 h2 h3).1⟩)
 have HLEN0:=y46h (show (zar behT s.store s.out).length≤40 from Nat.le_trans ziv hG.n)
 obtain ⟨of_,cf,rfl⟩:=zao hS.lf
 obtain ⟨os,cs,rfl⟩:=hS.ls.val
 obtain ⟨oo,co,rfl⟩:=hS.lo.val
 obtain ⟨ok,ck,rfl⟩:=hS.lk.val
 have HW:=y46h hS
 obtain ⟨og,cg,rfl⟩:=zao hL
 have HLP:=y46h hL
 clear hS hG hB hL hb1 hb2 hb3 hb4 hb5 hf
 generalize filS s f=us at *
 generalize filE s f=ue at *
 generalize Pr.mayB f=bm at *
 have OA:=y46h (((Own.new w (stA s (.slice of_ s.f.kids.length cf) (.slice os s.store.length cs) (.slice oo s.out.length co) (.slice ok s.k.l.length ck)) 40).alloc (.cells #[.int .i64 f.op,.string f.text,.int .i64 f.n,.complex .f64 f.x f.y,.slice og f.kids.length cg] 32)).alloc (.cells stZ.toArray 40))
 have OP:=y46h ((Own.newAt (w.alloc (.cells (stA s (.slice of_ s.f.kids.length cf) (.slice os s.store.length cs) (.slice oo s.out.length co) (.slice ok s.k.l.length ck)) 40)) #[.int .i64 f.op,.string f.text,.int .i64 f.n,.complex .f64 f.x f.y,.slice og f.kids.length cg] 32 (b:=w.heap.size + 1) (by simp)).alloc (.cells stZ.toArray 40))
 have OT:=y46h (Own.newAt ((w.alloc (.cells (stA s (.slice of_ s.f.kids.length cf) (.slice os s.store.length cs) (.slice oo s.out.length co) (.slice ok s.k.l.length ck)) 40)).alloc (.cells #[.int .i64 f.op,.string f.text,.int .i64 f.n,.complex .f64 f.x f.y,.slice og f.kids.length cg] 32)) stZ.toArray 40 (b:=w.heap.size + 2) (by simp))
 have BE:=y46h ((((Below.refl w.heap.size w).alloc (Nat.le_refl _) (.cells (stA s (.slice of_ s.f.kids.length cf) (.slice os s.store.length cs) (.slice oo s.out.length co) (.slice ok s.k.l.length ck)) 40)).alloc (by simp) (.cells #[.int .i64 f.op,.string f.text,.int .i64 f.n,.complex .f64 f.x f.y,.slice og f.kids.length cg] 32)).alloc (by simp;omega) (.cells stZ.toArray 40))
 have lOA:=OA.out.cell
 have zOA:=OA.out.lt
 have lOP:=OP.out.cell
 have zOP:=OP.out.lt
 go_enter Tryz.func77,Tryz.ntmps77
 go_wp2_with fail
 refine (CM _ (HLP.out.later BE.out (Nat.le_refl _))).out.mono ?_
 rintro e w1 ⟨rfl,hb⟩
 clear lOA zOA lOP zOP
 replace OA:=y46h (OA.out.later hb)
 replace OP:=y46h (OP.out.later hb)
 replace OT:=y46h (OT.out.later hb)
 replace BE:=y46h (BE.out.trans (hb.mono BE.out.size))
 clear hb
 have lOA:=OA.out.cell
 have zOA:=OA.out.lt
 have lOP:=OP.out.cell
 have zOP:=OP.out.lt
 cases bm
 · have EE:=y46h (And.intro (EA.out (.inl rfl)).2 (EA.out (.inl rfl)).1)
   clear EA EB EC
   go_wp2_with (first | (refine wpList_load_mid (by rfl) 40 _ (by rfl) w.heap.size 0 (by rfl) ((stA s (.slice of_ s.f.kids.length cf) (.slice os s.store.length cs) (.slice oo s.out.length co) (.slice ok s.k.l.length ck))).toList _ OA.out.range Tryz.underlying40 (by rfl) (by kernel_rfl) ?_) | fail)
   refine (AG _ (HW.out.later BE.out)).out.mono ?_
   rintro e w3 ⟨v3,v4,v5,v6,rfl,hl,hr4,hr5,hk,hb⟩
   obtain ⟨o3,c3,rfl⟩:=zao hl.lp
   obtain ⟨o4,c4,rfl⟩:=hr4.row.val
   obtain ⟨o5,c5,rfl⟩:=hr5.row.val
   obtain ⟨o6,c6,rfl⟩:=hk.fr.val
   have zw:=OT.out.lt
   have zB:=BE.out.size
   clear lOA zOA lOP zOP
   replace BE:=y46h (BE.out.trans (hb.mono BE.out.size))
   replace OT:=y46h (OT.out.later hb)
   have HK:=y46h (And.intro (OT.out.sets (stA s (.slice o3 s.f.kids.length c3) (.slice o4 s.store.length c4) (.slice o5 s.out.length c5) (.slice o6 s.k.l.length c6)).toList (by rfl)) (And.intro (zaa (b:=w.heap.size + 2) (by omega) (stA s (.slice o3 s.f.kids.length c3) (.slice o4 s.store.length c4) (.slice o5 s.out.length c5) (.slice o6 s.k.l.length c6)).toList 0 BE.out) (And.intro ((hl.setsAt (b:=w.heap.size + 2) zw (stA s (.slice o3 s.f.kids.length c3) (.slice o4 s.store.length c4) (.slice o5 s.out.length c5) (.slice o6 s.k.l.length c6)).toList 0).mono' zB) (And.intro ((hr4.sets (b:=w.heap.size + 2) zw (stA s (.slice o3 s.f.kids.length c3) (.slice o4 s.store.length c4) (.slice o5 s.out.length c5) (.slice o6 s.k.l.length c6)).toList 0).mono zB) (And.intro ((hr5.sets (b:=w.heap.size + 2) zw (stA s (.slice o3 s.f.kids.length c3) (.slice o4 s.store.length c4) (.slice o5 s.out.length c5) (.slice o6 s.k.l.length c6)).toList 0).mono zB) ((hk.sets (b:=w.heap.size + 2) zw (stA s (.slice o3 s.f.kids.length c3) (.slice o4 s.store.length c4) (.slice o5 s.out.length c5) (.slice o6 s.k.l.length c6)).toList 0).mono zB))))))
   clear hl hr4 hr5 hk hb zw zB
   go_wp2_with (first | (refine wpList_store_mid (by rfl) 40 _ _ (by rfl) (w.heap.size + 2) 0 (stA s (.slice o3 s.f.kids.length c3) (.slice o4 s.store.length c4) (.slice o5 s.out.length c5) (.slice o6 s.k.l.length c6)) (by rfl) (by rfl) (OT.out.there (by rfl)) (by kernel_rfl) (by simp [Value.oneCell']) ?_) | fail)
   revert HK
   generalize World.setCells _ _ _ _=WW
   intro HK
   refine zab (by rfl) (by rfl) (by rfl) HK.out.1.range Tryz.underlying40 (by rfl) (by kernel_rfl) rfl ?_
   rw [EE.out.1,EE.out.2]
   exact ⟨_,_,_,_,rfl,⟨.inr HK.out.2.2.1,.inr HK.out.2.2.2.1,.inr HK.out.2.2.2.2.1,.inr HK.out.2.2.2.2.2⟩,HK.out.2.1⟩
 · by_cases hst:s.f.op=1∧f.op ≠ 1
   · have EE:=y46h (And.intro (EA.out (.inr hst)).2 (EA.out (.inr hst)).1)
     clear EA EB EC
     have g1:(s.f.op == 1)=true:=by rw [beq_iff_eq];exact hst.1
     have g2:(f.op == 1)=false:=by rw [beq_eq_false_iff_ne];exact hst.2
     have g3:(f.op != 1)=true:=by rw [bne,g2];rfl
     clear hst
     go_wp2_with (first | (refine wpList_load_mid (by rfl) 40 _ (by rfl) w.heap.size 0 (by rfl) ((stA s (.slice of_ s.f.kids.length cf) (.slice os s.store.length cs) (.slice oo s.out.length co) (.slice ok s.k.l.length ck))).toList _ OA.out.range Tryz.underlying40 (by rfl) (by kernel_rfl) ?_) | fail)
     refine (AG _ (HW.out.later BE.out)).out.mono ?_
     rintro e w3 ⟨v3,v4,v5,v6,rfl,hl,hr4,hr5,hk,hb⟩
     obtain ⟨o3,c3,rfl⟩:=zao hl.lp
     obtain ⟨o4,c4,rfl⟩:=hr4.row.val
     obtain ⟨o5,c5,rfl⟩:=hr5.row.val
     obtain ⟨o6,c6,rfl⟩:=hk.fr.val
     have zw:=OT.out.lt
     have zB:=BE.out.size
     clear lOA zOA lOP zOP
     replace BE:=y46h (BE.out.trans (hb.mono BE.out.size))
     replace OT:=y46h (OT.out.later hb)
     have HK:=y46h (And.intro (OT.out.sets (stA s (.slice o3 s.f.kids.length c3) (.slice o4 s.store.length c4) (.slice o5 s.out.length c5) (.slice o6 s.k.l.length c6)).toList (by rfl)) (And.intro (zaa (b:=w.heap.size + 2) (by omega) (stA s (.slice o3 s.f.kids.length c3) (.slice o4 s.store.length c4) (.slice o5 s.out.length c5) (.slice o6 s.k.l.length c6)).toList 0 BE.out) (And.intro ((hl.setsAt (b:=w.heap.size + 2) zw (stA s (.slice o3 s.f.kids.length c3) (.slice o4 s.store.length c4) (.slice o5 s.out.length c5) (.slice o6 s.k.l.length c6)).toList 0).mono' zB) (And.intro ((hr4.sets (b:=w.heap.size + 2) zw (stA s (.slice o3 s.f.kids.length c3) (.slice o4 s.store.length c4) (.slice o5 s.out.length c5) (.slice o6 s.k.l.length c6)).toList 0).mono zB) (And.intro ((hr5.sets (b:=w.heap.size + 2) zw (stA s (.slice o3 s.f.kids.length c3) (.slice o4 s.store.length c4) (.slice o5 s.out.length c5) (.slice o6 s.k.l.length c6)).toList 0).mono zB) ((hk.sets (b:=w.heap.size + 2) zw (stA s (.slice o3 s.f.kids.length c3) (.slice o4 s.store.length c4) (.slice o5 s.out.length c5) (.slice o6 s.k.l.length c6)).toList 0).mono zB))))))
     clear hl hr4 hr5 hk hb zw zB
     go_wp2_with (first | (refine wpList_store_mid (by rfl) 40 _ _ (by rfl) (w.heap.size + 2) 0 (stA s (.slice o3 s.f.kids.length c3) (.slice o4 s.store.length c4) (.slice o5 s.out.length c5) (.slice o6 s.k.l.length c6)) (by rfl) (by rfl) (OT.out.there (by rfl)) (by kernel_rfl) (by simp [Value.oneCell']) ?_) | fail)
     revert HK
     generalize World.setCells _ _ _ _=WW
     intro HK
     refine zab (by rfl) (by rfl) (by rfl) HK.out.1.range Tryz.underlying40 (by rfl) (by kernel_rfl) rfl ?_
     rw [EE.out.1,EE.out.2]
     exact ⟨_,_,_,_,rfl,⟨.inr HK.out.2.2.1,.inr HK.out.2.2.2.1,.inr HK.out.2.2.2.2.1,.inr HK.out.2.2.2.2.2⟩,HK.out.2.1⟩
   · have hways:(s.f.op == 1)=false ∨ ((s.f.op == 1)=true∧(f.op == 1)=true):=by
       by_cases h1:s.f.op=1
       · refine .inr ⟨by rw [beq_iff_eq];exact h1,?_⟩
         rw [beq_iff_eq]
         by_cases h2:f.op=1
         · exact h2
         · exact absurd ⟨h1,h2⟩ hst
       · exact .inl (by rw [beq_eq_false_iff_ne];exact h1)
     clear EA
     by_cases he:s.epoch=1000000
     · have EE:=y46h (And.intro (EB.out rfl hst he).2 (EB.out rfl hst he).1)
       clear EB EC hst
       have g4:1000000≤s.epoch:=by omega
       clear he
       rcases hways with g1 | ⟨g1,g2⟩
       all_goals
         go_wp2_with (first | (refine wpList_load_mid (by rfl) 40 _ (by rfl) w.heap.size 0 (by rfl) ((stA s (.slice of_ s.f.kids.length cf) (.slice os s.store.length cs) (.slice oo s.out.length co) (.slice ok s.k.l.length ck))).toList _ OA.out.range Tryz.underlying40 (by rfl) (by kernel_rfl) ?_) | fail)
         refine (AG _ (HW.out.later BE.out)).out.mono ?_
         rintro e w3 ⟨v3,v4,v5,v6,rfl,hl,hr4,hr5,hk,hb⟩
         obtain ⟨o3,c3,rfl⟩:=zao hl.lp
         obtain ⟨o4,c4,rfl⟩:=hr4.row.val
         obtain ⟨o5,c5,rfl⟩:=hr5.row.val
         obtain ⟨o6,c6,rfl⟩:=hk.fr.val
         have zw:=OT.out.lt
         have zB:=BE.out.size
         clear lOA zOA lOP zOP
         replace BE:=y46h (BE.out.trans (hb.mono BE.out.size))
         replace OT:=y46h (OT.out.later hb)
         have HK:=y46h (And.intro (OT.out.sets (stA s (.slice o3 s.f.kids.length c3) (.slice o4 s.store.length c4) (.slice o5 s.out.length c5) (.slice o6 s.k.l.length c6)).toList (by rfl)) (And.intro (zaa (b:=w.heap.size + 2) (by omega) (stA s (.slice o3 s.f.kids.length c3) (.slice o4 s.store.length c4) (.slice o5 s.out.length c5) (.slice o6 s.k.l.length c6)).toList 0 BE.out) (And.intro ((hl.setsAt (b:=w.heap.size + 2) zw (stA s (.slice o3 s.f.kids.length c3) (.slice o4 s.store.length c4) (.slice o5 s.out.length c5) (.slice o6 s.k.l.length c6)).toList 0).mono' zB) (And.intro ((hr4.sets (b:=w.heap.size + 2) zw (stA s (.slice o3 s.f.kids.length c3) (.slice o4 s.store.length c4) (.slice o5 s.out.length c5) (.slice o6 s.k.l.length c6)).toList 0).mono zB) (And.intro ((hr5.sets (b:=w.heap.size + 2) zw (stA s (.slice o3 s.f.kids.length c3) (.slice o4 s.store.length c4) (.slice o5 s.out.length c5) (.slice o6 s.k.l.length c6)).toList 0).mono zB) ((hk.sets (b:=w.heap.size + 2) zw (stA s (.slice o3 s.f.kids.length c3) (.slice o4 s.store.length c4) (.slice o5 s.out.length c5) (.slice o6 s.k.l.length c6)).toList 0).mono zB))))))
         clear hl hr4 hr5 hk hb zw zB
         go_wp2_with (first | (refine wpList_store_mid (by rfl) 40 _ _ (by rfl) (w.heap.size + 2) 0 (stA s (.slice o3 s.f.kids.length c3) (.slice o4 s.store.length c4) (.slice o5 s.out.length c5) (.slice o6 s.k.l.length c6)) (by rfl) (by rfl) (OT.out.there (by rfl)) (by kernel_rfl) (by simp [Value.oneCell']) ?_) | fail)
         revert HK
         generalize World.setCells _ _ _ _=WW
         intro HK
         refine zab (by rfl) (by rfl) (by rfl) HK.out.1.range Tryz.underlying40 (by rfl) (by kernel_rfl) rfl ?_
         rw [EE.out.1,EE.out.2]
         exact ⟨_,_,_,_,rfl,⟨.inr HK.out.2.2.1,.inr HK.out.2.2.2.1,.inr HK.out.2.2.2.2.1,.inr HK.out.2.2.2.2.2⟩,HK.out.2.1⟩
     · have EE:=y46h (EC.out rfl hst he)
       clear EB EC hst
       have g4:¬ 1000000≤s.epoch:=by omega
       clear he AG
       go_upto_region 2 with fail
       go_cut [11] (fun s11 wx=>s11=.bool false∧Hid (w1=wx))
       case first =>
         rcases hways with g1 | ⟨g1,g2⟩
         all_goals
           go_wp2_with fail
           go_meet
           first | exact ⟨rfl,rfl⟩ | exact ⟨by rw [bne,g2];rfl,rfl⟩
       case rest =>
         obtain ⟨rfl,hwx⟩:=hcut
         have ewx:=hwx.out
         subst ewx
         clear hwx hways
         go_upto_region 8 with fail
         clear lOA zOA lOP zOP
         have OK0:=y46h (Own.new w1 #[.int .i64 0,.int .i64 0,.int .i64 0,.int .i64 0,.int .i64 0,.int .i64 0,.int .i64 0,.int .i64 0,.slice none 0 0] 38)
         have zT:=y46h OT.out.lt
         replace BE:=y46h (BE.out.alloc BE.out.size (.cells #[.int .i64 0,.int .i64 0,.int .i64 0,.int .i64 0,.int .i64 0,.int .i64 0,.int .i64 0,.int .i64 0,.slice none 0 0] 38))
         replace OA:=y46h (OA.out.alloc (.cells #[.int .i64 0,.int .i64 0,.int .i64 0,.int .i64 0,.int .i64 0,.int .i64 0,.int .i64 0,.int .i64 0,.slice none 0 0] 38))
         replace OP:=y46h (OP.out.alloc (.cells #[.int .i64 0,.int .i64 0,.int .i64 0,.int .i64 0,.int .i64 0,.int .i64 0,.int .i64 0,.int .i64 0,.slice none 0 0] 38))
         replace OT:=y46h (OT.out.alloc (.cells #[.int .i64 0,.int .i64 0,.int .i64 0,.int .i64 0,.int .i64 0,.int .i64 0,.int .i64 0,.int .i64 0,.slice none 0 0] 38))
         have lOA:=OA.out.cell
         have zOA:=OA.out.lt
         go_wp2_with fail
         refine (CBO _ (HW.out.ls.later BE.out) (HW.out.lo.later BE.out)).out.mono ?_
         rintro e wb ⟨vl,rfl,hrl,hb⟩
         clear lOA zOA
         replace OA:=y46h (OA.out.later hb)
         replace OP:=y46h (OP.out.later hb)
         replace OT:=y46h (OT.out.later hb)
         replace OK0:=y46h (OK0.out.later hb)
         replace BE:=y46h (BE.out.trans (hb.mono BE.out.size))
         clear hb
         replace OK0:=y46h (show Own wb w1.heap.size (knA zad (.slice none 0 0)) 38 from OK0.out)
         have hbk:=OK0.out.lt
         have HBK:=y46h hbk
         have HRL:=y46h hrl
         have HOKS:=y46h hrl.oks
         obtain ⟨ol,cl,rfl⟩:=hrl.val
         clear hrl hbk
         generalize hLL:zar behT s.store s.out=L at *
         have HLL:=y46h hLL
         clear hLL
         have FS0:Hid (FlS wb w1.heap.size L f 0 (.slice none 0 0) (.slice none 0 0) (.slice none 0 0) wb):=y46h ⟨⟨rfl,rfl,rfl,Nat.le_refl _,fun _ _ _=>rfl⟩,OK0.out,⟨fun _=>.nilFunc,KL.nil _ _ _⟩,OwnI.nil _ _,OwnI.nil _ _,.inl rfl⟩
         generalize hn:L.length=n at *
         have HN:=y46h hn
         clear hn
         have hn40:=HLEN0.out
         go_wp2_with fail
         go_loopw [7,8,40] (fun sv ov kv wr=>z05 wb w1.heap.size L f n sv ov kv wr) (fun _ _ k _=>n - (intOf k).toNat)
         case atStart=>exact ⟨0,.slice none 0 0,Nat.zero_le _,rfl,FS0⟩
         case round =>
           clear FS0
           obtain ⟨k,Lv,hk,rfl,FS⟩:=hrel
           obtain ⟨oS,cS,gS,eS,s1,s2,_⟩:=zaq FS.out.s
           subst eS
           obtain ⟨oO,cO,gO,eO,p1,p2,_⟩:=zaq FS.out.o
           subst eO
           unfold maxLen at s2 p2
           have zI:=FS.out.gr.size
           by_cases hlt:k < n
           · obtain ⟨x,hx⟩:∃ x,L[k]?=some x:=⟨_,List.getElem?_eq_getElem (by rw [HN.out];exact hlt)⟩
             have HXS:=y46h (HOKS.out x (List.mem_of_getElem? hx))
             have HX:=y46h hx
             obtain ⟨b,o,hF⟩:∃ b o,RowAt 8 ic wr L ol cl b o:=(by obtain ⟨oa',cap',b,o,e',h⟩:=zuw HRL.out OK0.out FS.out.gr;rw [HN.out] at e';cases e';exact ⟨b,o,h⟩)
             obtain ⟨rfl,hb0⟩:=hF.at0 (by rw [HN.out];omega)
             obtain ⟨c0,c1,c2,c3,c4,c5,c6,c7⟩:=zbe (w:=wr) (fun j u hu=>hF.cell k x hx j u hu)
             have q0:(0:Int)≤(k:Int):=by omega
             have q1:(k:Int) < (n:Int):=by omega
             clear hx hF
             have OI:=y46h (Own.new wr (iA x) 58)
             have OKr:=y46h (FS.out.kn.alloc (.cells (iA x) 58))
             go_upto_region 11 with fail
             clear c0 c1 c2 c3 c4 c5 c6 c7
             replace OI:=y46h OI.out.drew
             replace OKr:=y46h OKr.out.drew
             have CW:=fun w'=>y46h (show Calls Tryz.prog 64 #[.agg #[.int .i64 0,.int .i64 0,.int .i64 0,.int .i64 0,.int .i64 0,.int .i64 0,.int .i64 0,.int .i64 0,.slice none 0 0],.string x.id,.agg #[.int .i64 x.r,.int .i64 x.c]] w' (fun e w''=>∃ v',e=.returned (.agg #[.int .i64 0,.int .i64 0,.int .i64 0,.int .i64 0,.int .i64 0,.int .i64 0,.int .i64 0,.int .i64 0,v'])∧FrOwn w'' w'.heap.size (za1 x) v'∧Below w'.heap.size w' w'') from zfu ⟨zad,[]⟩ x.id x.r x.c (.slice none 0 0) w' (zf8 w' 0).fr HXS.out.1 (by simp [zal,zaf]) (by simp))
             refine zdx (S:=(fun w'=>∀ o,w'.cell? ⟨w1.heap.size,o,none⟩=(knA zad Lv)[o]?)) (T:=(fun w'=>∀ o,w'.cell? ⟨wr.heap.size,o,none⟩=(iA x)[o]?)) (D:=(fun j=>j == 11)) (by kernel_rfl) (by exact OKr.out.cell) (by exact OI.out.cell) (fun hHeld hStay=>?_)
             obtain ⟨oL,nL,cL,eL,hnL⟩:∃ oL nL cL,Lv=.slice oL nL cL∧((L.take k).flatMap za1).length=nL:=(by obtain ⟨U,hk⟩:=FS.out.kl;obtain ⟨oL,cL,gL,eL,_⟩:=zaq hk.row;exact ⟨oL,_,cL,eL,rfl⟩)
             subst eL
             have hpl:=(zga (L.take k)).2
             rw [List.length_take,hnL] at hpl
             have HNL:=y46h hnL
             clear hnL
             refine zaj (i:=0) (v:=?_) rfl (by kernel_rfl) (by kernel_rfl) (by kernel_rfl) (fun _ _ _ h=>h) (Or.inl ⟨by rfl,?_⟩) hStay ?_
             rotate_left 1
             · (intro w hSw;(try dsimp only at hSw);go_simp;try with_reducible rfl)
             try simp only [Act.put,y46a,y46b,y46c,y46d,y46e,y46f]
             refine zeg (i:=1) (v:=?_) rfl (by kernel_rfl) (by kernel_rfl) (by kernel_rfl) (by kernel_rfl) (fun _ _ _ h=>h) (Or.inl ⟨by rfl,?_⟩) hHeld ?_
             rotate_left 1
             · (intro w hSw;(try dsimp only at hSw);go_simp;try with_reducible rfl)
             try simp only [Act.put,y46a,y46b,y46c,y46d,y46e,y46f]
             refine zaj (i:=2) (v:=?_) rfl (by kernel_rfl) (by kernel_rfl) (by kernel_rfl) (fun _ _ _ h=>h) (Or.inl ⟨by rfl,?_⟩) hStay ?_
             rotate_left 1
             · (intro w hSw;(try dsimp only at hSw);go_simp;try with_reducible rfl)
             try simp only [Act.put,y46a,y46b,y46c,y46d,y46e,y46f]
             refine zaj (i:=3) (v:=?_) rfl (by kernel_rfl) (by kernel_rfl) (by kernel_rfl) (fun _ _ _ h=>h) (Or.inl ⟨by rfl,?_⟩) hStay ?_
             rotate_left 1
             · (intro w hSw;(try dsimp only at hSw);go_simp;try with_reducible rfl)
             try simp only [Act.put,y46a,y46b,y46c,y46d,y46e,y46f]
             refine zaj (i:=4) (v:=?_) rfl (by kernel_rfl) (by kernel_rfl) (by kernel_rfl) (fun _ _ _ h=>h) (Or.inl ⟨by rfl,?_⟩) hStay ?_
             rotate_left 1
             · (intro w hSw;(try dsimp only at hSw);go_simp;try with_reducible rfl)
             try simp only [Act.put,y46a,y46b,y46c,y46d,y46e,y46f]
             refine zaj (i:=5) (v:=?_) rfl (by kernel_rfl) (by kernel_rfl) (by kernel_rfl) (fun _ _ _ h=>h) (Or.inl ⟨by rfl,?_⟩) hStay ?_
             rotate_left 1
             · (intro w hSw;(try dsimp only at hSw);go_simp;try with_reducible rfl)
             try simp only [Act.put,y46a,y46b,y46c,y46d,y46e,y46f]
             refine zaj (i:=6) (v:=?_) rfl (by kernel_rfl) (by kernel_rfl) (by kernel_rfl) (fun _ _ _ h=>h) (Or.inl ⟨by rfl,?_⟩) hStay ?_
             rotate_left 1
             · (intro w hSw;(try dsimp only at hSw);go_simp;try with_reducible rfl)
             try simp only [Act.put,y46a,y46b,y46c,y46d,y46e,y46f]
             refine za7 (i:=7) (by kernel_rfl) rfl (fun K hK=>?_)
             try simp only [y46a,y46b,y46c]
             (go_simp;go_at_call 64;refine (CW _).out.mono ?_;rintro e w7 ⟨v7,rfl,hfo,hb⟩;obtain ⟨_,V,hpk⟩:=hfo;obtain ⟨o7,c7,g7,e7,_,_,_⟩:=zaq hpk.row;generalize (za1 x).length=n7 at e7;subst e7;have HPK:=y46h hpk;have HB7:=y46h hb;replace OI:=y46h (OI.out.later hb);replace OKr:=y46h (OKr.out.later hb);clear hpk hb)
             try go_wp2_with fail
             refine hK.out _ _ (fun _=>by exact OKr.out.cell) (by exact OI.out.cell) (fun hHeld' hStay'=>?_)
             replace hHeld:=hHeld' (by rfl)
             replace hStay:=hStay'
             clear hK K hHeld' hStay'
             try simp only [Act.put,y46a,y46b,y46c,y46d,y46e,y46f]
             refine zaj (i:=8) (v:=?_) rfl (by kernel_rfl) (by kernel_rfl) (by kernel_rfl) (fun _ _ _ h=>h) (Or.inl ⟨by rfl,?_⟩) hStay ?_
             rotate_left 1
             · (intro w hSw;(try dsimp only at hSw);go_simp;(try simp only [zz9,Result.andThen]);try with_reducible rfl)
             try simp only [Act.put,y46a,y46b,y46c,y46d,y46e,y46f]
             obtain ⟨U,hkl⟩:=FS.out.kl
             have hB7:Below wr.heap.size wr w7:=(((Below.refl _ _).alloc (Nat.le_refl _) (.cells (iA x) 58)).drew).trans (HB7.out.mono (by simp))
             have HK7:=y46h (hkl.later hB7)
             have hp1:=(zk4 x).2
             obtain ⟨v9,w9,hrun,hown,hgr⟩:=zja 36 HK7.out HPK.out (by rw [HNL.out];omega) (by have:=hB7.size;omega)
             have hOK9:=OKr.out.grown hgr (za9 HK7.out.row OKr.out know_ne_frag.symm)
             have hOI9:=OI.out.grown hgr (za9 HK7.out.row OI.out item_ne_frag.symm)
             have OK9:=y46h hOK9
             have OI9:=y46h hOI9
             clear hOK9 hOI9
             have MID0:=FS.out.mid HX.out HBK.out (by have:=HB7.out;simpa using this) hkl HPK.out (by simp;omega) hown hgr
             have MID:=y46h MID0
             obtain ⟨o9,c9,g9,e9,_,_,_⟩:=zaq hown
             generalize ((L.take k).flatMap za1).length + (za1 x).length=n9 at e9
             subst e9
             clear MID0 hown hgr hkl hB7 hp1
             refine za7 (i:=9) (by kernel_rfl) rfl (fun K hK=>?_)
             try simp only [y46a,y46b,y46c]
             rw [if_pos (by rfl)]
             refine Lib.wp_append_run w7 _ _ _ _ (by rfl) _ _ (by rfl) (by rfl) _ w9 hrun ?_
             refine hK.out _ _ (fun _=>by exact OK9.out.cell) (by exact OI9.out.cell) (fun hHeld' hStay'=>?_)
             replace hHeld:=hHeld' (by rfl)
             replace hStay:=hStay'
             clear hK K hHeld' hStay' hrun
             try simp only [Act.put,y46a,y46b,y46c,y46d,y46e,y46f]
             refine zaj (i:=10) (v:=?_) rfl (by kernel_rfl) (by kernel_rfl) (by kernel_rfl) (fun _ _ _ h=>h) (Or.inl ⟨by rfl,?_⟩) hStay ?_
             rotate_left 1
             · (intro w hSw;(try dsimp only at hSw);go_simp;try with_reducible rfl)
             try simp only [Act.put,y46a,y46b,y46c,y46d,y46e,y46f]
             have l9:=OK9.out.cell
             have f9:=OK9.out.free
             have z9:=OK9.out.lt
             refine za7 (i:=11) (by kernel_rfl) rfl (fun K hK=>?_)
             try simp only [y46a,y46b,y46c]
             first | rw [if_pos (by rfl)] | skip
             go_simp
             refine hK.out _ _ (fun h=>by cases h) (by exact MID.out.i.cell) (fun _ hStay'=>?_)
             replace hStay:=hStay'
             clear hK K hStay'
             try simp only [Act.put,y46a,y46b,y46c,y46d,y46e,y46f]
             refine zef (by kernel_rfl) ?_ _
             clear l9 f9 z9 OK9 OI9 OKr OI HB7 HPK HK7 CW hHeld hStay FS
             revert MID
             generalize World.setCell w9 _ _=W
             intro MID
             have OPw:=y46h (OP.out.grown MID.out.gr (by have:=zT.out;simp only [ne_eq,Option.some.injEq];omega))
             have BEw:=y46h (BE.out.grown MID.out.gr BE.out.size (fun q hq=>by cases hq;have:=zT.out;omega))
             have CH:=y46h (zku x f (.slice og f.kids.length cg) W (HLP.out.later BEw.out (Nat.le_refl _)) HXS.out.1)
             have l1:=OPw.out.cell
             have l2:=MID.out.i.cell
             go_wp2_with fail
             refine CH.out.mono ?_
             rintro e W2 ⟨rfl,hb⟩
             replace MID:=y46h (MID.out.later hb)
             have zW:wb.heap.size≤W2.heap.size:=Nat.le_trans MID.out.gr.size (Nat.le_refl _)
             clear l1 l2 OPw BEw CH hb
             have l2:=MID.out.i.cell
             have z2:=MID.out.i.lt
             obtain ⟨j0,hj,hy0,hy1,hy2⟩:=info_parts zct
             have hls:((L.take k).filter fun x=>hasT f x).length≤k:=Nat.le_trans (List.length_filter_le _ _) (by rw [List.length_take];omega)
             have hlo:((L.take k).filter fun x=>!hasT f x).length≤k:=Nat.le_trans (List.length_filter_le _ _) (by rw [List.length_take];omega)
             cases hh:hasT f x
             case false =>
               generalize hM:((L.take k).filter fun x=>!hasT f x).length=mo at *
               have HM:=y46h hM
               have HS:=y46h (show (W2.alloc (.cells (iA x) 58)).ownsRow wb.heap.size 58 8 (.slice oO mo cO) mo (zay ((L.take k).filter fun x=>!hasT f x)) from hM ▸ OwnI.alloc MID.out.o (.cells (iA x) 58))
               clear hM
               have HZ:=y46h (show wb.heap.size≤(W2.alloc (.cells (iA x) 58)).heap.size by simp;omega)
               have AP:=fun ty=>y46h (run_append_lies (P:=Tryz.prog) (w:=W2.alloc (.cells (iA x) 58)) 33 ty wb.heap.size 58 j0 _ 8 88 Tryz.underlying33 hj hy0 hy1 hy2 rfl (by omega) (.slice oO mo cO) mo (zay ((L.take k).filter fun x=>!hasT f x)) HS.out ⟨W2.heap.size,0,none⟩ 1 1 (ic x) rfl ziy (zea x) (by omega) (by unfold maxLen;omega) (Nat.le_trans (Nat.mul_le_mul (show mo + 1≤100 by omega) (Nat.le_refl 88)) (by decide)) HZ.out (W2.heap.size + 1) (by simp))
               clear hj hy0 hy1 hy2
               go_wp2_with (at_builtin;obtain ⟨g13,c13,w13,hrun,ho,hgr,hnew,_⟩:=(AP _).out;refine Lib.wpList_append_run _ rfl _ _ _ _ rfl _ _ rfl rfl _ _ hrun ?_;have FN:=y46h (MID.out.inOut HX.out hh HM.out ho hgr hnew);clear l2 z2 hrun ho hgr hnew)
               go_roundw
               case rel=>exact ⟨k + 1,_,by omega,by go_num,FN⟩
               case measure=>simp [intOf];omega
             case true =>
               generalize hM:((L.take k).filter fun x=>hasT f x).length=ms at *
               have HM:=y46h hM
               have HS:=y46h (show (W2.alloc (.cells (iA x) 58)).ownsRow wb.heap.size 58 8 (.slice oS ms cS) ms (zay ((L.take k).filter fun x=>hasT f x)) from hM ▸ OwnI.alloc MID.out.s (.cells (iA x) 58))
               clear hM
               have HZ:=y46h (show wb.heap.size≤(W2.alloc (.cells (iA x) 58)).heap.size by simp;omega)
               have AP:=fun ty=>y46h (run_append_lies (P:=Tryz.prog) (w:=W2.alloc (.cells (iA x) 58)) 33 ty wb.heap.size 58 j0 _ 8 88 Tryz.underlying33 hj hy0 hy1 hy2 rfl (by omega) (.slice oS ms cS) ms (zay ((L.take k).filter fun x=>hasT f x)) HS.out ⟨W2.heap.size,0,none⟩ 1 1 (ic x) rfl ziy (zea x) (by omega) (by unfold maxLen;omega) (Nat.le_trans (Nat.mul_le_mul (show ms + 1≤100 by omega) (Nat.le_refl 88)) (by decide)) HZ.out (W2.heap.size + 1) (by simp))
               clear hj hy0 hy1 hy2
               go_wp2_with (at_builtin;obtain ⟨g13,c13,w13,hrun,ho,hgr,hnew,_⟩:=(AP _).out;refine Lib.wpList_append_run _ rfl _ _ _ _ rfl _ _ rfl rfl _ _ hrun ?_;have FN:=y46h (MID.out.inStore HX.out hh HM.out ho hgr hnew);clear l2 z2 hrun ho hgr hnew)
               go_roundw
               case rel=>exact ⟨k + 1,_,by omega,by go_num,FN⟩
               case measure=>simp [intOf];omega
           · obtain rfl:k=n:=by omega
             have OAr:=y46h (OA.out.grown FS.out.gr (by have:=zT.out;simp only [ne_eq,Option.some.injEq];omega))
             have OPr:=y46h (OP.out.grown FS.out.gr (by have:=zT.out;simp only [ne_eq,Option.some.injEq];omega))
             have OTr:=y46h (OT.out.grown FS.out.gr (by have:=zT.out;simp only [ne_eq,Option.some.injEq];omega))
             have OKr:=y46h FS.out.kn
             have BEr:=y46h (BE.out.grown FS.out.gr BE.out.size (fun q hq=>by cases hq;have:=zT.out;omega))
             have hB3:w.heap.size + 3≤wb.heap.size:=by have:=OT.out.lt;omega
             have ht:L.take k=L:=List.take_of_length_le (by rw [HN.out];exact Nat.le_refl _)
             have hkl0:=FS.out.kl
             have hs0:=FS.out.s
             have ho0:=FS.out.o
             rw [ht] at hkl0 hs0 ho0
             obtain ⟨U,hkl⟩:=hkl0
             obtain ⟨oL,nL,cL,eL,hnL⟩:∃ oL nL cL,Lv=.slice oL nL cL∧(L.flatMap za1).length=nL:=(by obtain ⟨oL,cL,gL,eL,_⟩:=zaq hkl.row;exact ⟨oL,_,cL,eL,rfl⟩)
             subst eL
             have hFW:=hkl.fr (fun q hq t ht'=>by
               obtain ⟨y,hy,hq⟩:=List.mem_flatMap.1 hq
               obtain ⟨g,hg,hm⟩:=zq0 hq ht'
               simp [zal] at hg
               subst hg
               simp at hm
               rw [hm]
               exact (HOKS.out y hy).1)
             have HFW:=y46h hFW
             have RS:=y46h ((OwnI.rowF hs0 (fun i hi=>HOKS.out i (List.mem_filter.1 hi).1)).mono (B':=w.heap.size + 3) hB3)
             have RO:=y46h ((OwnI.rowF ho0 (fun i hi=>HOKS.out i (List.mem_filter.1 hi).1)).mono (B':=w.heap.size + 3) hB3)
             rw [ht] at s1 p1
             have hflat:(zaf (L.flatMap za1)).length≤10000:=Nat.le_trans (zga L).1 (by rw [HN.out];omega)
             have CPL:=fun w' h=>y46h (zft ⟨zad,L.flatMap za1⟩ (.slice oL nL cL) w' h hflat)
             clear hkl hs0 ho0 hFW FS hflat
             have hS1:∀ q,(L.take k).filter q=L.filter q:=fun q=>by rw [ht]
             rw [hS1,hS1]
             clear hS1 ht
             generalize hns:(L.filter fun x=>hasT f x).length=ns at *
             generalize hno:(L.filter fun x=>!hasT f x).length=no at *
             go_upto_region 16 with fail
             replace OAr:=y46h OAr.out.drew
             replace OPr:=y46h OPr.out.drew
             replace OTr:=y46h OTr.out.drew
             replace OKr:=y46h OKr.out.drew
             replace BEr:=y46h BEr.out.drew
             replace RS:=y46h (RS.out.later (Below.refl _ _).drew)
             replace RO:=y46h (RO.out.later (Below.refl _ _).drew)
             replace HFW:=y46h (HFW.out.later (Below.refl wr.heap.size wr).drew (Nat.le_refl _))
             refine zdx (S:=(fun _=>True)) (T:=(fun w'=>(∀ o,w'.cell? ⟨w.heap.size + 1,o,none⟩=(#[.int .i64 f.op,.string f.text,.int .i64 f.n,.complex .f64 f.x f.y,.slice og f.kids.length cg]:Array Value)[o]?)∧∀ o,w'.cell? ⟨w1.heap.size,o,none⟩=(knA zad (.slice oL nL cL))[o]?)) (D:=(fun _=>false)) (by kernel_rfl) (trivial) (by exact ⟨OPr.out.cell,OKr.out.cell⟩) (fun hHeld hStay=>?_)
             refine zaj (i:=0) (v:=?_) rfl (by kernel_rfl) (by kernel_rfl) (by kernel_rfl) (fun _ _ _ h=>h) (Or.inl ⟨by rfl,?_⟩) hStay ?_
             rotate_left 1
             · (intro w hSw;(try dsimp only at hSw);obtain ⟨hSa,hSb⟩:=hSw;go_simp;try with_reducible rfl)
             try simp only [Act.put,y46a,y46b,y46c,y46d,y46e,y46f]
             refine zaj (i:=2) (v:=?_) rfl (by kernel_rfl) (by kernel_rfl) (by kernel_rfl) (fun _ _ _ h=>h) (Or.inl ⟨by rfl,?_⟩) hStay ?_
             rotate_left 1
             · (intro w hSw;(try dsimp only at hSw);obtain ⟨hSa,hSb⟩:=hSw;go_simp;try with_reducible rfl)
             try simp only [Act.put,y46a,y46b,y46c,y46d,y46e,y46f]
             refine zaj (i:=3) (v:=?_) rfl (by kernel_rfl) (by kernel_rfl) (by kernel_rfl) (fun _ _ _ h=>h) (Or.inl ⟨by rfl,?_⟩) hStay ?_
             rotate_left 1
             · (intro w hSw;(try dsimp only at hSw);obtain ⟨hSa,hSb⟩:=hSw;go_simp;try with_reducible rfl)
             try simp only [Act.put,y46a,y46b,y46c,y46d,y46e,y46f]
             refine zaj (i:=4) (v:=?_) rfl (by kernel_rfl) (by kernel_rfl) (by kernel_rfl) (fun _ _ _ h=>h) (Or.inl ⟨by rfl,?_⟩) hStay ?_
             rotate_left 1
             · (intro w hSw;(try dsimp only at hSw);obtain ⟨hSa,hSb⟩:=hSw;go_simp;try with_reducible rfl)
             try simp only [Act.put,y46a,y46b,y46c,y46d,y46e,y46f]
             refine za7 (i:=1) (by kernel_rfl) rfl (fun K hK=>?_)
             try simp only [y46a,y46b,y46c]
             (go_simp;go_at_call 56;refine (CF _ (HLP.out.later BEr.out (Nat.le_refl _))).out.mono ?_;rintro e w3 ⟨v3,rfl,hl3,hb⟩;obtain ⟨o3,c3,rfl⟩:=zao hl3.lp;have L3:=y46h (hl3.mono' (B':=w.heap.size + 3) (by have:=BEr.out.size;have:=OTr.out.lt;omega));replace OAr:=y46h (OAr.out.later hb);replace OPr:=y46h (OPr.out.later hb);replace OTr:=y46h (OTr.out.later hb);replace OKr:=y46h (OKr.out.later hb);replace RS:=y46h (RS.out.later hb);replace RO:=y46h (RO.out.later hb);replace HFW:=y46h (HFW.out.later hb (Nat.le_refl _));replace BEr:=y46h (BEr.out.trans (hb.mono BEr.out.size));clear hl3 hb)
             try go_wp2_with fail
             refine hK.out _ _ (fun _=>trivial) (by exact ⟨OPr.out.cell,OKr.out.cell⟩) (fun hHeld' hStay'=>?_)
             replace hStay:=hStay'
             clear hK K hHeld' hStay'
             try simp only [Act.put,y46a,y46b,y46c,y46d,y46e,y46f]
             refine zaj (i:=6) (v:=?_) rfl (by kernel_rfl) (by kernel_rfl) (by kernel_rfl) (fun _ _ _ h=>h) (Or.inl ⟨by rfl,?_⟩) hStay ?_
             rotate_left 1
             · (intro w hSw; go_simp;try with_reducible rfl)
             try simp only [Act.put,y46a,y46b,y46c,y46d,y46e,y46f]
             refine za7 (i:=5) (by kernel_rfl) rfl (fun K hK=>?_)
             try simp only [y46a,y46b,y46c]
             (go_simp;go_at_call 142;refine (CPL _ HFW.out).out.mono ?_;rintro e w4 ⟨v4,rfl,hfr,hb⟩;obtain ⟨o4,c4,rfl⟩:=hfr.fr.val;have F4:=y46h (hfr.mono (B':=w.heap.size + 3) (by have:=OTr.out.lt;omega));replace OAr:=y46h (OAr.out.later hb);replace OPr:=y46h (OPr.out.later hb);replace OTr:=y46h (OTr.out.later hb);replace OKr:=y46h (OKr.out.later hb);replace RS:=y46h (RS.out.later hb);replace RO:=y46h (RO.out.later hb);replace L3:=y46h (L3.out.later hb);replace BEr:=y46h (BEr.out.trans (hb.mono BEr.out.size));clear hfr hb HFW CPL CF;generalize (zah ⟨zad,L.flatMap za1⟩).l.length=n4 at *)
             try go_wp2_with fail
             refine hK.out _ _ (fun _=>trivial) (by exact ⟨OPr.out.cell,OKr.out.cell⟩) (fun hHeld' hStay'=>?_)
             replace hStay:=hStay'
             clear hK K hHeld' hStay'
             try simp only [Act.put,y46a,y46b,y46c,y46d,y46e,y46f]
             generalize hPL:(zah ⟨zad,L.flatMap za1⟩).l=PLL at *
             have A1:Hid (Own (w4.setCells w.heap.size 1 [.int .i64 f.op,.string f.text,.int .i64 f.n,.complex .f64 f.x f.y,(.slice o3 f.kids.length c3)]) w.heap.size (stA (⟨s.r,f,s.store,s.out,⟨s.k.star,s.k.l⟩,s.count,s.clock,s.epoch⟩:St) (.slice o3 f.kids.length c3) (.slice os s.store.length cs) (.slice oo s.out.length co) (.slice ok s.k.l.length ck)) 40):=y46h (by have:=((((OAr.out.set 1 (.int .i64 f.op)).set 2 (.string f.text)).set 3 (.int .i64 f.n)).set 4 (.complex .f64 f.x f.y)).set 5 (.slice o3 f.kids.length c3);exact this)
             have P1:=y46h (And.intro (OPr.out.setsFar (b:=w.heap.size) [.int .i64 f.op,.string f.text,.int .i64 f.n,.complex .f64 f.x f.y,(.slice o3 f.kids.length c3)] 1 (by omega)).cell (OKr.out.setsFar (b:=w.heap.size) [.int .i64 f.op,.string f.text,.int .i64 f.n,.complex .f64 f.x f.y,(.slice o3 f.kids.length c3)] 1 (by have:=zT.out;omega)).cell)
             refine za7 (i:=7) (by kernel_rfl) rfl (fun K hK=>?_)
             try simp only [y46a,y46b,y46c]
             first | rw [if_pos (by rfl)] | skip
             refine wp_store_mid 32 _ _ rfl w.heap.size 1 #[.int .i64 f.op,.string f.text,.int .i64 f.n,.complex .f64 f.x f.y,(.slice o3 f.kids.length c3)] (by rfl) (by rfl) (OAr.out.thereAt 1 5 (by simp)) (by kernel_rfl) (by simp [Value.oneCell']) ?_
             refine hK.out _ _ (fun h=>trivial) (by exact P1.out) (fun _ hStay'=>?_)
             replace hStay:=hStay'
             clear hK K hStay'
             try simp only [Act.put,y46a,y46b,y46c,y46d,y46e,y46f]
             refine zaj (i:=8) (v:=?_) rfl (by kernel_rfl) (by kernel_rfl) (by kernel_rfl) (fun _ _ _ h=>h) (Or.inl ⟨by rfl,?_⟩) hStay ?_
             rotate_left 1
             · (intro w hSw; go_simp;try with_reducible rfl)
             try simp only [Act.put,y46a,y46b,y46c,y46d,y46e,y46f]
             have l1:=A1.out.cell
             have f1:=A1.out.free
             have z1:=A1.out.lt
             have A2:Hid (Own ((w4.setCells w.heap.size 1 [.int .i64 f.op,.string f.text,.int .i64 f.n,.complex .f64 f.x f.y,(.slice o3 f.kids.length c3)]).setCell ⟨w.heap.size,6,none⟩ (.slice oS ns cS)) w.heap.size (stA (⟨s.r,f,s.store,s.out,⟨s.k.star,s.k.l⟩,s.count,s.clock,s.epoch⟩:St) (.slice o3 f.kids.length c3) (.slice oS ns cS) (.slice oo s.out.length co) (.slice ok s.k.l.length ck)) 40):=y46h (by have:=A1.out.set 6 (.slice oS ns cS);exact this)
             have P2:=y46h (And.intro ((OPr.out.setsFar (b:=w.heap.size) [.int .i64 f.op,.string f.text,.int .i64 f.n,.complex .f64 f.x f.y,(.slice o3 f.kids.length c3)] 1 (by omega)).setFar ⟨w.heap.size,6,none⟩ (.slice oS ns cS) (by show w.heap.size + 1 ≠ w.heap.size;omega)).cell ((OKr.out.setsFar (b:=w.heap.size) [.int .i64 f.op,.string f.text,.int .i64 f.n,.complex .f64 f.x f.y,(.slice o3 f.kids.length c3)] 1 (by have:=zT.out;omega)).setFar ⟨w.heap.size,6,none⟩ (.slice oS ns cS) (by have:=zT.out;show w1.heap.size ≠ w.heap.size;omega)).cell)
             refine za7 (i:=9) (by kernel_rfl) rfl (fun K hK=>?_)
             try simp only [y46a,y46b,y46c]
             first | rw [if_pos (by rfl)] | skip
             go_simp
             refine hK.out _ _ (fun h=>trivial) (by exact P2.out) (fun _ hStay'=>?_)
             replace hStay:=hStay'
             clear hK K hStay'
             try simp only [Act.put,y46a,y46b,y46c,y46d,y46e,y46f]
             clear l1 f1 z1
             refine zaj (i:=10) (v:=?_) rfl (by kernel_rfl) (by kernel_rfl) (by kernel_rfl) (fun _ _ _ h=>h) (Or.inl ⟨by rfl,?_⟩) hStay ?_
             rotate_left 1
             · (intro w hSw; go_simp;try with_reducible rfl)
             try simp only [Act.put,y46a,y46b,y46c,y46d,y46e,y46f]
             have l1:=A2.out.cell
             have f1:=A2.out.free
             have z1:=A2.out.lt
             have A3:Hid (Own (((w4.setCells w.heap.size 1 [.int .i64 f.op,.string f.text,.int .i64 f.n,.complex .f64 f.x f.y,(.slice o3 f.kids.length c3)]).setCell ⟨w.heap.size,6,none⟩ (.slice oS ns cS)).setCell ⟨w.heap.size,7,none⟩ (.slice oO no cO)) w.heap.size (stA (⟨s.r,f,s.store,s.out,⟨s.k.star,s.k.l⟩,s.count,s.clock,s.epoch⟩:St) (.slice o3 f.kids.length c3) (.slice oS ns cS) (.slice oO no cO) (.slice ok s.k.l.length ck)) 40):=y46h (by have:=A2.out.set 7 (.slice oO no cO);exact this)
             have P3:=y46h (And.intro (((OPr.out.setsFar (b:=w.heap.size) [.int .i64 f.op,.string f.text,.int .i64 f.n,.complex .f64 f.x f.y,(.slice o3 f.kids.length c3)] 1 (by omega)).setFar ⟨w.heap.size,6,none⟩ (.slice oS ns cS) (by show w.heap.size + 1 ≠ w.heap.size;omega)).setFar ⟨w.heap.size,7,none⟩ (.slice oO no cO) (by show w.heap.size + 1 ≠ w.heap.size;omega)).cell (((OKr.out.setsFar (b:=w.heap.size) [.int .i64 f.op,.string f.text,.int .i64 f.n,.complex .f64 f.x f.y,(.slice o3 f.kids.length c3)] 1 (by have:=zT.out;omega)).setFar ⟨w.heap.size,6,none⟩ (.slice oS ns cS) (by have:=zT.out;show w1.heap.size ≠ w.heap.size;omega)).setFar ⟨w.heap.size,7,none⟩ (.slice oO no cO) (by have:=zT.out;show w1.heap.size ≠ w.heap.size;omega)).cell)
             refine za7 (i:=11) (by kernel_rfl) rfl (fun K hK=>?_)
             try simp only [y46a,y46b,y46c]
             first | rw [if_pos (by rfl)] | skip
             go_simp
             refine hK.out _ _ (fun h=>trivial) (by exact P3.out) (fun _ hStay'=>?_)
             replace hStay:=hStay'
             clear hK K hStay'
             try simp only [Act.put,y46a,y46b,y46c,y46d,y46e,y46f]
             clear l1 f1 z1
             refine zaj (i:=12) (v:=?_) rfl (by kernel_rfl) (by kernel_rfl) (by kernel_rfl) (fun _ _ _ h=>h) (Or.inl ⟨by rfl,?_⟩) hStay ?_
             rotate_left 1
             · (intro w hSw; go_simp;try with_reducible rfl)
             try simp only [Act.put,y46a,y46b,y46c,y46d,y46e,y46f]
             have A4:Hid (Own ((((w4.setCells w.heap.size 1 [.int .i64 f.op,.string f.text,.int .i64 f.n,.complex .f64 f.x f.y,(.slice o3 f.kids.length c3)]).setCell ⟨w.heap.size,6,none⟩ (.slice oS ns cS)).setCell ⟨w.heap.size,7,none⟩ (.slice oO no cO)).setCells w.heap.size 8 (knL zad (.slice o4 n4 c4))) w.heap.size (stA (⟨s.r,f,s.store,s.out,⟨zad,s.k.l⟩,s.count,s.clock,s.epoch⟩:St) (.slice o3 f.kids.length c3) (.slice oS ns cS) (.slice oO no cO) (.slice o4 n4 c4)) 40):=y46h (zuj A3.out zad s.k.l (.slice o4 n4 c4))
             have hA:w.heap.size < w.heap.size + 3:=by omega
             have KEY:=y46h (And.intro A4.out (And.intro ((((OTr.out.setsFar (b:=w.heap.size) [.int .i64 f.op,.string f.text,.int .i64 f.n,.complex .f64 f.x f.y,(.slice o3 f.kids.length c3)] 1 (by omega)).setFar ⟨w.heap.size,6,none⟩ (.slice oS ns cS) (by show w.heap.size + 2 ≠ w.heap.size;omega)).setFar ⟨w.heap.size,7,none⟩ (.slice oO no cO) (by show w.heap.size + 2 ≠ w.heap.size;omega)).setsFar (b:=w.heap.size) (knL zad (.slice o4 n4 c4)) 8 (by omega)) (And.intro (zaa (b:=w.heap.size) (Nat.le_refl _) (knL zad (.slice o4 n4 c4)) 8 (((zaa (b:=w.heap.size) (Nat.le_refl _) [.int .i64 f.op,.string f.text,.int .i64 f.n,.complex .f64 f.x f.y,(.slice o3 f.kids.length c3)] 1 BEr.out).setCell (p:=⟨w.heap.size,6,none⟩) (Nat.le_refl _) (.slice oS ns cS)).setCell (p:=⟨w.heap.size,7,none⟩) (Nat.le_refl _) (.slice oO no cO))) (And.intro ((((L3.out.setsAt hA [.int .i64 f.op,.string f.text,.int .i64 f.n,.complex .f64 f.x f.y,(.slice o3 f.kids.length c3)] 1).setLow hA (q:=6) (.slice oS ns cS)).setLow hA (q:=7) (.slice oO no cO)).setsAt hA (knL zad (.slice o4 n4 c4)) 8) (And.intro ((((RS.out.sets hA [.int .i64 f.op,.string f.text,.int .i64 f.n,.complex .f64 f.x f.y,(.slice o3 f.kids.length c3)] 1).set hA (q:=6) (.slice oS ns cS)).set hA (q:=7) (.slice oO no cO)).sets hA (knL zad (.slice o4 n4 c4)) 8) (And.intro ((((RO.out.sets hA [.int .i64 f.op,.string f.text,.int .i64 f.n,.complex .f64 f.x f.y,(.slice o3 f.kids.length c3)] 1).set hA (q:=6) (.slice oS ns cS)).set hA (q:=7) (.slice oO no cO)).sets hA (knL zad (.slice o4 n4 c4)) 8) (FrFresh.sets hA (knL zad (.slice o4 n4 c4)) 8 (((FrFresh.sets hA [.int .i64 f.op,.string f.text,.int .i64 f.n,.complex .f64 f.x f.y,(.slice o3 f.kids.length c3)] 1 F4.out).setLow (a:=⟨w.heap.size,6,none⟩) hA (.slice oS ns cS)).setLow (a:=⟨w.heap.size,7,none⟩) hA (.slice oO no cO)))))))))
             refine zp4 (i:=13) (by kernel_rfl) rfl rfl 38 _ _ rfl w.heap.size 8 #[.int .i64 (zad 0),.int .i64 (zad 1),.int .i64 (zad 2),.int .i64 (zad 3),.int .i64 (zad 4),.int .i64 (zad 5),.int .i64 (zad 6),.int .i64 (zad 7),(.slice o4 n4 c4)] (by rfl) (by rfl) (A3.out.thereAt 8 9 (by simp)) (by kernel_rfl) (by simp [Value.oneCell']) (fun _=>trivial) (by exact ⟨((((OPr.out.setsFar (b:=w.heap.size) [.int .i64 f.op,.string f.text,.int .i64 f.n,.complex .f64 f.x f.y,(.slice o3 f.kids.length c3)] 1 (by omega)).setFar ⟨w.heap.size,6,none⟩ (.slice oS ns cS) (by show w.heap.size + 1 ≠ w.heap.size;omega)).setFar ⟨w.heap.size,7,none⟩ (.slice oO no cO) (by show w.heap.size + 1 ≠ w.heap.size;omega)).setsFar (b:=w.heap.size) (knL zad (.slice o4 n4 c4)) 8 (by omega)).cell,((((OKr.out.setsFar (b:=w.heap.size) [.int .i64 f.op,.string f.text,.int .i64 f.n,.complex .f64 f.x f.y,(.slice o3 f.kids.length c3)] 1 (by have:=zT.out;omega)).setFar ⟨w.heap.size,6,none⟩ (.slice oS ns cS) (by have:=zT.out;show w1.heap.size ≠ w.heap.size;omega)).setFar ⟨w.heap.size,7,none⟩ (.slice oO no cO) (by have:=zT.out;show w1.heap.size ≠ w.heap.size;omega)).setsFar (b:=w.heap.size) (knL zad (.slice o4 n4 c4)) 8 (by have:=zT.out;omega)).cell⟩) (fun hStay'=>?_)
             replace hStay:=hStay'
             clear hStay'
             try simp only [Act.put,y46a,y46b,y46c,y46d,y46e,y46f]
             refine zef (by kernel_rfl) ?_ _
             clear A1 A2 A3 A4 P1 P2 P3 OAr OPr OTr OKr BEr L3 RS RO F4 hHeld hStay
             revert KEY
             generalize World.setCells (World.setCell (World.setCell (World.setCells _ _ _ _) _ _) _ _) _ _ _=X6
             intro KEY
             have l1:=KEY.out.1.cell
             have f1:=KEY.out.1.free
             have z1:=KEY.out.1.lt
             have he2:s.epoch + 1≤9223372036854775807:=by omega
             have he3:-9223372036854775808≤s.epoch + 1:=by omega
             go_upto_region 18 with fail
             clear l1 f1 z1
             have B1:Hid (Own (X6.setCell ⟨w.heap.size,19,none⟩ (.int .i64 (s.epoch + 1))) w.heap.size (stA (⟨s.r,f,s.store,s.out,⟨zad,s.k.l⟩,s.count,s.clock,s.epoch + 1⟩:St) (.slice o3 f.kids.length c3) (.slice oS ns cS) (.slice oO no cO) (.slice o4 n4 c4)) 40):=y46h (by have:=KEY.out.1.set 19 (.int .i64 (s.epoch + 1));exact this)
             have KEY2:=y46h (And.intro B1.out (And.intro (KEY.out.2.1.setFar ⟨w.heap.size,19,none⟩ (.int .i64 (s.epoch + 1)) (by show w.heap.size + 2 ≠ w.heap.size;omega)) (And.intro (KEY.out.2.2.1.setCell (p:=⟨w.heap.size,19,none⟩) (Nat.le_refl _) (.int .i64 (s.epoch + 1))) (And.intro (KEY.out.2.2.2.1.setLow hA (q:=19) (.int .i64 (s.epoch + 1))) (And.intro (KEY.out.2.2.2.2.1.set hA (q:=19) (.int .i64 (s.epoch + 1))) (And.intro (KEY.out.2.2.2.2.2.1.set hA (q:=19) (.int .i64 (s.epoch + 1))) (KEY.out.2.2.2.2.2.2.setLow (a:=⟨w.heap.size,19,none⟩) hA (.int .i64 (s.epoch + 1)))))))))
             clear KEY B1
             revert KEY2
             generalize World.setCell X6 _ _=X8
             intro KEY2
             have OAR:=y46h KEY2.out.1
             have OTR:=y46h KEY2.out.2.1
             have hB4:w.heap.size + 2 < w.heap.size + 3:=by omega
             have HK:=y46h (And.intro (KEY2.out.2.1.sets (stA (⟨s.r,f,s.store,s.out,⟨zad,s.k.l⟩,s.count,s.clock,s.epoch + 1⟩:St) (.slice o3 f.kids.length c3) (.slice oS ns cS) (.slice oO no cO) (.slice o4 n4 c4)).toList (by rfl)) (And.intro (zaa (b:=w.heap.size + 2) (by omega) (stA (⟨s.r,f,s.store,s.out,⟨zad,s.k.l⟩,s.count,s.clock,s.epoch + 1⟩:St) (.slice o3 f.kids.length c3) (.slice oS ns cS) (.slice oO no cO) (.slice o4 n4 c4)).toList 0 KEY2.out.2.2.1) (And.intro (KEY2.out.2.2.2.1.setsAt hB4 (stA (⟨s.r,f,s.store,s.out,⟨zad,s.k.l⟩,s.count,s.clock,s.epoch + 1⟩:St) (.slice o3 f.kids.length c3) (.slice oS ns cS) (.slice oO no cO) (.slice o4 n4 c4)).toList 0) (And.intro (KEY2.out.2.2.2.2.1.sets hB4 (stA (⟨s.r,f,s.store,s.out,⟨zad,s.k.l⟩,s.count,s.clock,s.epoch + 1⟩:St) (.slice o3 f.kids.length c3) (.slice oS ns cS) (.slice oO no cO) (.slice o4 n4 c4)).toList 0) (And.intro (KEY2.out.2.2.2.2.2.1.sets hB4 (stA (⟨s.r,f,s.store,s.out,⟨zad,s.k.l⟩,s.count,s.clock,s.epoch + 1⟩:St) (.slice o3 f.kids.length c3) (.slice oS ns cS) (.slice oO no cO) (.slice o4 n4 c4)).toList 0) (FrFresh.sets hB4 (stA (⟨s.r,f,s.store,s.out,⟨zad,s.k.l⟩,s.count,s.clock,s.epoch + 1⟩:St) (.slice o3 f.kids.length c3) (.slice oS ns cS) (.slice oO no cO) (.slice o4 n4 c4)).toList 0 KEY2.out.2.2.2.2.2.2))))))
             clear KEY2
             go_wp2_with (first | (refine wpList_load_mid (by rfl) 40 _ (by rfl) w.heap.size 0 (by rfl) (stA (⟨s.r,f,s.store,s.out,⟨zad,s.k.l⟩,s.count,s.clock,s.epoch + 1⟩:St) (.slice o3 f.kids.length c3) (.slice oS ns cS) (.slice oO no cO) (.slice o4 n4 c4)).toList _ OAR.out.range Tryz.underlying40 (by rfl) (by kernel_rfl) ?_) | (refine wpList_store_mid (by rfl) 40 _ _ (by rfl) (w.heap.size + 2) 0 (stA (⟨s.r,f,s.store,s.out,⟨zad,s.k.l⟩,s.count,s.clock,s.epoch + 1⟩:St) (.slice o3 f.kids.length c3) (.slice oS ns cS) (.slice oO no cO) (.slice o4 n4 c4)) (by rfl) (by rfl) (OTR.out.there (by rfl)) (by kernel_rfl) (by simp [Value.oneCell']) ?_) | fail)
             revert HK
             generalize World.setCells _ _ _ _=WW
             intro HK
             have hB5:w.heap.size≤w.heap.size + 3:=by omega
             have FIN0:Told errI s.f (.slice of_ s.f.kids.length cf) s (.slice os s.store.length cs) (.slice oo s.out.length co) (.slice ok s.k.l.length ck) us ue w (.returned (.tuple #[.agg (stA (⟨s.r,f,s.store,s.out,⟨zad,s.k.l⟩,s.count,s.clock,s.epoch + 1⟩:St) (.slice o3 f.kids.length c3) (.slice oS ns cS) (.slice oO no cO) (.slice o4 n4 c4)).toList.toArray,.nilIface])) WW:=by
               rw [EE.out.1,EE.out.2]
               refine ⟨_,_,_,_,rfl,⟨.inr (HK.out.2.2.1.mono' hB5),.inr ?_,.inr ?_,.inr ?_⟩,HK.out.2.1⟩
               · show RowF WW w.heap.size ((zar behT s.store s.out).filter (fun x=>hasT f x)) _
                 rw [HLL.out]
                 exact HK.out.2.2.2.1.mono hB5
               · show RowF WW w.heap.size ((zar behT s.store s.out).filter (fun x=>!hasT f x)) _
                 rw [HLL.out]
                 exact HK.out.2.2.2.2.1.mono hB5
               · show FrFresh WW w.heap.size (zah ⟨zad,(zar behT s.store s.out).flatMap za1⟩).l _
                 rw [HLL.out,hPL]
                 exact HK.out.2.2.2.2.2.mono hB5
             exact zab (by rfl) (by rfl) (by rfl) HK.out.1.range Tryz.underlying40 (by rfl) (by kernel_rfl) rfl FIN0
end Go.Proofs.YtodfhabkdaiopaaGreat
