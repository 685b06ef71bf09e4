/- Joined: Up9M, Up9, RecvUp, LKeepM. -/
import Derived.Test.YtodfhabkdaiopaaGreatJ40
import Derived.Test.YtodfhabkdaiopaaGreatJ47
import Derived.Test.YtodfhabkdaiopaaGreatJ43
import Derived.Test.YtodfhabkdaiopaaGreatJ42
namespace Go.Proofs.YtodfhabkdaiopaaGreat
set_option linter.unusedVariables false
set_option linter.unusedSimpArgs false
set_option maxRecDepth 100000
set_option maxHeartbeats 8000000
open Go.RowKit
theorem y51h {p:Prop} (h:p):Go.RowKit.Hid p:=Lib.hid h
theorem zj3 {r:Int} {f:Pr} (h:zdd r f=true):Good (newS r f):=by
 unfold zdd at h
 rw [Bool.and_eq_true,zit] at h
 refine ⟨h.1,rfl,rfl,zmq,h.2,by show 0 + 0≤40;omega,by show (0:Int)≤0∧(0:Int)≤1000;omega,by show (0:Int)≤0∧(0:Int)≤1000000;omega,by show (0:Int)≤0∧(0:Int)≤1000000;omega,fun i hi=>by simp [newS] at hi,fun i hi=>by simp [newS] at hi,fun i hi=>by simp [newS] at hi,?_⟩
 rw [zd3]
 exact ⟨zgd (Int.le_refl _) fun _=>Int.le_refl _,fun f hf=>by simp [newS] at hf⟩
end Go.Proofs.YtodfhabkdaiopaaGreat
namespace Go.Proofs.YtodfhabkdaiopaaGreat
set_option linter.unusedVariables false
set_option linter.unusedSimpArgs false
set_option maxRecDepth 100000
set_option maxHeartbeats 8000000
open Go Go.RowKit
abbrev pUpR:Pr:=.node 2 ⟨#[]⟩ 0 0 0 []
abbrev xUpR:Itm:=⟨⟨#[97]⟩,2,1,5,⟨#[]⟩,0,0,0,false⟩
theorem zwq:Pr.mayB pUpR=true:=by
 have h:Pr.bareB ⟨#[]⟩ 0 0 0 0=true:=by
   have h1:feq 0 0=true:=by decide
   have h2:(⟨#[]⟩:ByteArray).toList=[]:=by rw [ByteArray.toList_eq]
   unfold Pr.bareB
   rw [h1,h2];rfl
 simp [Pr.mayB,Pr.fitsB,Pr.size,Pr.sizes,Pr.depth,Pr.depths,Pr.all,Pr.alls,Pr.partB,h]
theorem zll:zdd 1 pUpR=true:=by unfold zdd;rw [zwq];decide
theorem upR_new:newT 1 pUpR=newS 1 pUpR∧newE 1 pUpR=0:=by
 unfold newT newE
 rw [if_pos zll,if_pos zll];exact ⟨rfl,rfl⟩
theorem zxr:mayT xUpR=true:=by decide
theorem zq8:hasT pUpR xUpR=false:=by decide
theorem upR_recv:za8 (newS 1 pUpR) xUpR=0∧zax (newS 1 pUpR) xUpR=zbv (preR (newS 1 pUpR) xUpR) xUpR false:=by
 have h1:zbc (newS 1 pUpR) xUpR=true:=by unfold zbc;rw [zxr];decide
 have h2:hasK (newS 1 pUpR).k xUpR.id xUpR.r xUpR.c=false:=by decide
 have h3:newB (newS 1 pUpR) xUpR=true:=by decide
 have h4:zcj (newS 1 pUpR) xUpR=false:=by
   unfold zcj
   rw [show hasT (newS 1 pUpR).f xUpR=false from zq8]
   simp
 unfold za8 zax
 rw [if_pos h1,if_pos h1,if_neg (by rw [h2];decide),if_neg (by rw [h4];decide),if_neg (by rw [h2];decide),if_neg (by rw [h4];decide),if_pos h3]
 exact ⟨rfl,rfl⟩
theorem zxn:(zax (newS 1 pUpR) xUpR).store.length=0∧(zax (newS 1 pUpR) xUpR).out.length=0∧(zax (newS 1 pUpR) xUpR).clock=5:=by
 rw [upR_recv.2]
 refine ⟨?_,?_,rfl⟩
 · show (zam (preR (newS 1 pUpR) xUpR) xUpR).length=0
   unfold zam
   rw [show hasT (preR (newS 1 pUpR) xUpR).f xUpR=false from zq8,if_neg (by decide)]
   rfl
 · show (laidOut (preR (newS 1 pUpR) xUpR) xUpR false).length=0
   rw [zgx];rfl
theorem zu8:hasK (zax (newS 1 pUpR) xUpR).k xUpR.id 2 1=true:=(zr8 (zj3 zll) upR_recv.1).2
theorem zsp (w:World):Calls Tryz.prog 9 #[] w fun e w'=>e=.returned (.bool true)∧Below w.heap.size w w':=by
 have BEL:=y51h (Below.refl w.heap.size w)
 have hB1:StB (newS 1 pUpR):=⟨by decide,by decide,by decide,by decide,by decide⟩
 have CN:=fun w'=>y51h (show Calls Tryz.prog 11 #[.int .i64 1,prV pUpR (.slice none 0 0)] w' (fun q w''=>∃ f5 s5 o5 k5,q=.returned (.tuple #[stV (newS 1 pUpR) f5 s5 o5 k5,.nilIface])∧StW w'' (newS 1 pUpR) f5 s5 o5 k5∧Below w'.heap.size w' w'') from by
   have h:=newC 1 pUpR (.slice none 0 0) w' (zgy (by decide)) (by decide)
   rw [upR_new.1,upR_new.2] at h
   exact h)
 have CI:=fun a b c e w' (h:StW w' (newS 1 pUpR) a b c e)=>y51h (show Calls Tryz.prog 17 #[stV (newS 1 pUpR) a b c e,iV xUpR] w' (fun q w''=>∃ f6 s6 o6 k6,q=.returned (.tuple #[stV (zax (newS 1 pUpR) xUpR) f6 s6 o6 k6,.nilIface])∧StW w'' (zax (newS 1 pUpR) xUpR) f6 s6 o6 k6∧Below w'.heap.size w' w'') from by
   have h2:=zer (newS 1 pUpR) a b c e xUpR w' h (zj3 zll) hB1 ⟨by decide,by decide⟩
   rw [upR_recv.1] at h2
   exact h2.mono fun _ _ ⟨f6,s6,o6,k6,he,hx,hb⟩=>⟨f6,s6,o6,k6,he,hx.now,hb⟩)
 have hL:=zxn
 have hcl:=hL.2.2
 have CK:=fun kv w' h=>y51h (zu8 ▸ zhm (zax (newS 1 pUpR) xUpR).k xUpR.id 2 1 kv w' h (by decide))
 generalize hS2:zax (newS 1 pUpR) xUpR=S2 at *
 generalize newS 1 pUpR=S1 at *
 have HL:=y51h hL
 have HCL:=y51h hcl
 clear hB1 hL hcl hS2
 go_enter Tryz.func9,Tryz.ntmps9
 go_upto_region 3 with (first
   | (go_at_call 11;refine (CN _).out.mono ?_;rintro e w1 ⟨f5,s5,o5,k5,rfl,hst,hb⟩;obtain ⟨⟨oa1,ca1,rfl⟩,⟨ob1,cb1,rfl⟩,⟨oc1,cc1,rfl⟩,⟨od1,cd1,rfl⟩⟩:=hst.shape;replace BEL:=y51h (BEL.out.trans (Below.mono hb BEL.out.size));have X1:=y51h (hst);have O1:=y51h (Own.new w1 stZ.toArray 40);clear hst hb)
   | (refine wpList_store_mid (by rfl) 40 _ _ (by rfl) w1.heap.size 0 (stA S1 (.slice oa1 S1.f.kids.length ca1) (.slice ob1 S1.store.length cb1) (.slice oc1 S1.out.length cc1) (.slice od1 S1.k.l.length cd1)) (by rfl) (by rfl) (O1.out.there (by rfl)) (by kernel_rfl) (by simp [Value.oneCell']) ?_;have HK:=y51h (And.intro (O1.out.sets (stA S1 (.slice oa1 S1.f.kids.length ca1) (.slice ob1 S1.store.length cb1) (.slice oc1 S1.out.length cc1) (.slice od1 S1.k.l.length cd1)).toList (by rfl)) (zaa (B:=w1.heap.size) (b:=w1.heap.size) (Nat.le_refl _) (stA S1 (.slice oa1 S1.f.kids.length ca1) (.slice ob1 S1.store.length cb1) (.slice oc1 S1.out.length cc1) (.slice od1 S1.k.l.length cd1)).toList 0 ((Below.refl _ _).alloc (Nat.le_refl _) (.cells stZ.toArray 40))));revert HK;generalize World.setCells _ _ _ _=W1;intro HK;have hb:=HK.out.2;replace O1:=y51h HK.out.1;replace BEL:=y51h (BEL.out.trans (Below.mono hb BEL.out.size));replace X1:=y51h (X1.out.later hb);clear HK hb)
   | fail)
 have O3:=y51h (Own.new W1 (iA xUpR) 58)
 have hb9:Below W1.heap.size W1 (W1.alloc (.cells (iA xUpR) 58)):=(Below.refl _ _).alloc (Nat.le_refl _) _
 replace O1:=y51h (O1.out.later hb9)
 replace X1:=y51h (X1.out.later hb9)
 replace BEL:=y51h (BEL.out.trans (hb9.mono BEL.out.size))
 clear hb9
 have l3:=O3.out.cell
 have z3:=O3.out.lt
 go_upto_region 4 with (first
   | (refine wpList_load_mid (by rfl) 40 _ (by rfl) w1.heap.size 0 (by rfl) (stA S1 (.slice oa1 S1.f.kids.length ca1) (.slice ob1 S1.store.length cb1) (.slice oc1 S1.out.length cc1) (.slice od1 S1.k.l.length cd1)).toList _ (by exact O1.out.part 0 _ (by rfl)) Tryz.underlying40 (by rfl) (by kernel_rfl) ?_)
   | (go_at_call 17;refine (CI _ _ _ _ _ X1.out).out.mono ?_;rintro e w2 ⟨f6,s6,o6,k6,rfl,hst,hb⟩;obtain ⟨⟨oa2,ca2,rfl⟩,⟨ob2,cb2,rfl⟩,⟨oc2,cc2,rfl⟩,⟨od2,cd2,rfl⟩⟩:=hst.shape;replace O1:=y51h (O1.out.later hb);replace O3:=y51h (O3.out.later hb);replace X1:=y51h (X1.out.later hb);replace BEL:=y51h (BEL.out.trans (Below.mono hb BEL.out.size));have X2:=y51h (hst);have O2:=y51h (Own.new w2 stZ.toArray 40);clear hst hb;clear l3 z3)
   | (refine wpList_store_mid (by rfl) 40 _ _ (by rfl) w2.heap.size 0 (stA S2 (.slice oa2 S2.f.kids.length ca2) (.slice ob2 S2.store.length cb2) (.slice oc2 S2.out.length cc2) (.slice od2 S2.k.l.length cd2)) (by rfl) (by rfl) (O2.out.there (by rfl)) (by kernel_rfl) (by simp [Value.oneCell']) ?_;have HK:=y51h (And.intro (O2.out.sets (stA S2 (.slice oa2 S2.f.kids.length ca2) (.slice ob2 S2.store.length cb2) (.slice oc2 S2.out.length cc2) (.slice od2 S2.k.l.length cd2)).toList (by rfl)) (zaa (B:=w2.heap.size) (b:=w2.heap.size) (Nat.le_refl _) (stA S2 (.slice oa2 S2.f.kids.length ca2) (.slice ob2 S2.store.length cb2) (.slice oc2 S2.out.length cc2) (.slice od2 S2.k.l.length cd2)).toList 0 ((Below.refl _ _).alloc (Nat.le_refl _) (.cells stZ.toArray 40))));revert HK;generalize World.setCells _ _ _ _=W2;intro HK;have hb:=HK.out.2;replace O2:=y51h HK.out.1;replace O1:=y51h (O1.out.later hb);replace O3:=y51h (O3.out.later hb);replace X1:=y51h (X1.out.later hb);replace BEL:=y51h (BEL.out.trans (Below.mono hb BEL.out.size));replace X2:=y51h (X2.out.later hb);clear HK hb)
   | fail)
 clear O1 X1 CN CI
 rw [HL.out.1,HL.out.2.1] at O2
 have OC:Hid (Own W2 w2.heap.size (stA ⟨S2.r,S2.f,S2.store,S2.out,S2.k,S2.count,5,S2.epoch⟩ (.slice oa2 S2.f.kids.length ca2) (.slice ob2 0 cb2) (.slice oc2 0 cc2) (.slice od2 S2.k.l.length cd2)) 40):=by
   have h:=O2.out
   rw [← HCL.out]
   exact y51h h
 have l2:=OC.out.cell
 have z2:=OC.out.lt
 have l3:=O3.out.cell
 have z3:=O3.out.lt
 go_wp2_with (first
   | (refine zjc (by rfl) 38 _ (by rfl) w2.heap.size 8 (by rfl) (knA S2.k.star (.slice od2 S2.k.l.length cd2)).toList _ (by exact OC.out.part 8 _ (by rfl)) Tryz.underlying38 (by rfl) (by kernel_rfl) ?_)
   | (go_at_call 52;refine (CK _ _ X2.out.lk).out.mono ?_;rintro e wz ⟨rfl,hb⟩;clear l2 z2 l3 z3;replace OC:=y51h (OC.out.later hb);replace BEL:=y51h (BEL.out.trans (hb.mono BEL.out.size));clear hb;have l2:=OC.out.cell;have z2:=OC.out.lt)
   | fail)
 go_ret
 exact ⟨rfl,BEL.out⟩
end Go.Proofs.YtodfhabkdaiopaaGreat
namespace Go.Proofs.YtodfhabkdaiopaaGreat
set_option linter.unusedVariables false
set_option linter.unusedSimpArgs false
set_option maxRecDepth 100000
set_option maxHeartbeats 8000000
open Go.RowKit
theorem ztd {s:St} {d:De} (hG:Good s) (h:doE s d=0):(za4 d.what=3∧doS s d=filF s d.f) ∨ (za4 d.what ≠ 3∧∃ x,doS s d=zbb s x∧x.id=d.id∧x.d=decide (za4 d.what=2)):=by
 by_cases hp:za4 d.what=3
 · exact .inl ⟨hp,zz6 h hp⟩
 · exact .inr ⟨hp,zym hG h hp⟩
theorem zyl {s:St} {d:De} (hG:Good s) (h:doE s d=0):((zaf (doS s d).k.l).length≤(zaf s.k.l).length + 1 ∨ (zaf (doS s d).k.l).length≤40)∧((doS s d).k.l.length≤(zaf s.k.l).length + 1 ∨ (doS s d).k.l.length≤40):=by
 rcases ztd hG h with ⟨_,e⟩ | ⟨_,x,e,_⟩
 · rw [e,zqo hG]
   have h1:=zda ⟨zad,(zar behT s.store s.out).flatMap za1⟩
   have h2:=(zga (zar behT s.store s.out)).1
   have h3:(zar behT s.store s.out).length≤40:=Nat.le_trans ziv hG.n
   exact ⟨.inr (Nat.le_trans h1.1 (Nat.le_trans h2 h3)),.inr (Nat.le_trans h1.2 (Nat.le_trans h2 h3))⟩
 · rw [e]
   have h1:=zda (ownK s.k x.id s.r (s.count + 1))
   have h2:(zaf (ownK s.k x.id s.r (s.count + 1)).l).length≤(zaf s.k.l).length + 1:=by
     unfold ownK
     split
     · rw [zbk];exact Nat.le_refl _
     · exact Nat.le_succ _
   exact ⟨.inl (Nat.le_trans h1.1 h2),.inl (Nat.le_trans h1.2 h2)⟩
end Go.Proofs.YtodfhabkdaiopaaGreat
