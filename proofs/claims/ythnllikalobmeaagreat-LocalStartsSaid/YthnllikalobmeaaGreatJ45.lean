/- Joined: Up9, RefSame, RefSt1, LocalStarts. -/
import Derived.Test.YthnllikalobmeaaGreatJ44
import Derived.Test.YthnllikalobmeaaGreatJ16
import Derived.Test.YthnllikalobmeaaGreatJ15
import Derived.Test.YthnllikalobmeaaGreatJ12
import Derived.Deep.CutBlock
import Derived.Deep.DeepCutAuto
import Derived.Test.YthnllikalobmeaaGreatJ31
import Derived.Test.YthnllikalobmeaaGreatJ17
namespace Go.Proofs.YthnllikalobmeaaGreat
set_option linter.unusedVariables false
set_option linter.unusedSimpArgs false
set_option maxRecDepth 100000
set_option maxHeartbeats 8000000
open Go.RowKit
abbrev y45a := @List.getElem_toArray
abbrev y45b := @List.getElem_cons_zero
abbrev y45c := @List.getElem_cons_succ
abbrev y45d := @List.setIfInBounds_toArray
abbrev y45e := @List.set_cons_zero
abbrev y45f := @List.set_cons_succ
theorem y45h {p:Prop} (h:p):Hid p:=Lib.hid h
abbrev yUp:Itm:=⟨⟨#[97]⟩,1,1,1,⟨#[]⟩,1,0,0,false⟩
theorem zm0 (w:World):Calls Tryz.prog 7 #[] w fun e w'=>e = .returned (.bool true) ∧ Below w.heap.size w w':=by
 have BEL:=y45h (Below.refl w.heap.size w)
 have hB1:StB (newS 1 pUp):=⟨by decide,by decide,by decide,by decide,by decide⟩
 have hG2:=zoa (x:=xUp) zrv
 rw [up_cre.2] at hG2
 have hB2:StB (za0 (newS 1 pUp) xUp):=⟨by decide,by have:=hG2.n;omega,by have:=hG2.n;omega,by decide,by decide⟩
 have CN:=fun w'=>y45h (show Calls Tryz.prog 13 #[.int .i64 1,prV pUp (.slice none 0 0)] w' (fun q w''=>∃ f5 s5 o5 k5,q = .returned (.tuple #[stV (newS 1 pUp) f5 s5 o5 k5,.nilIface]) ∧ StW w'' (newS 1 pUp) f5 s5 o5 k5 ∧ Below w'.heap.size w' w'') from by
   have h:=newC 1 pUp (.slice none 0 0) w' (zg5 (by decide)) (by decide)
   rw [up_new.1,up_new.2] at h
   exact h)
 have CC:=fun a b c e w' (h:StW w' (newS 1 pUp) a b c e)=>y45h (show Calls Tryz.prog 31 #[stV (newS 1 pUp) a b c e,.string ⟨#[97]⟩,.string ⟨#[]⟩,.int .i64 1,.complex .f64 0 0] w' (fun q w''=>∃ f6 s6 o6 k6,q = .returned (.tuple #[stV (za0 (newS 1 pUp) xUp) f6 s6 o6 k6,.nilIface]) ∧ StW w'' (za0 (newS 1 pUp) xUp) f6 s6 o6 k6 ∧ Below w'.heap.size w' w'') from by
   have h2:=zeu (newS 1 pUp) a b c e ⟨#[97]⟩ ⟨#[]⟩ 1 0 0 w' h zrv hB1 (by decide) (by decide)
   rw [up_cre.1,up_cre.2] at h2
   exact h2.mono fun _ _ ⟨f6,s6,o6,k6,he,hx,hb⟩=>⟨f6,s6,o6,k6,he,hx.lies h.lf h.ls h.lo h.lk hb,hb⟩)
 have CR:=fun a b c e w' (h:StW w' (za0 (newS 1 pUp) xUp) a b c e)=>y45h (show Calls Tryz.prog 21 #[stV (za0 (newS 1 pUp) xUp) a b c e] w' (fun q w''=>∃ v',q = .returned v' ∧ Row 8 ic w'' [yUp] v' ∧ Below w'.heap.size w' w'') from by
   have h2:=zfx (za0 (newS 1 pUp) xUp) a b c e w' h (by have:=hG2.n;omega)
   rw [zzv] at h2
   exact h2)
 have CM:=fun a b c e w' (h:StW w' (za0 (newS 1 pUp) xUp) a b c e)=>y45h ((mayS_iff.2 hG2) ▸ zgh (za0 (newS 1 pUp) xUp) a b c e w' h hB2)
 have HS0:=y45h zzw
 clear hB1 hB2 hG2
 generalize za0 (newS 1 pUp) xUp = S2 at *
 generalize newS 1 pUp = S1 at *
 go_enter Tryz.func7,Tryz.ntmps7
 go_wp2_with (first | (go_at_call 13;refine (CN _).out.mono ?_;rintro e w5 ⟨f5,s5,o5,k5,rfl,hst,hb⟩;have h1:f5.oneCell' = true:=zar hst.lf;have h2:s5.oneCell' = true:=(by obtain ⟨_,_,_,_,e,_⟩:=hst.ls;rw [e];rfl);have h3:o5.oneCell' = true:=(by obtain ⟨_,_,_,_,e,_⟩:=hst.lo;rw [e];rfl);have h4:k5.oneCell' = true:=(by obtain ⟨_,_,e⟩:=hst.lk.val;rw [e];rfl);unfold Value.oneCell' at h1 h2 h3 h4;replace BEL:=y45h (BEL.out.trans (hb.mono BEL.out.size));have T:=y45h hst;have O1:=y45h (Own.new w5 stZ.toArray 43);clear hst hb) | (refine wpList_store_mid (by rfl) 43 _ _ (by rfl) w5.heap.size 0 (stA S1 f5 s5 o5 k5) (by rfl) (by rfl) (O1.out.there (by rfl)) (by kernel_rfl) (by simp [Value.oneCell',h1,h2,h3,h4]) ?_;have HK:=y45h (And.intro (O1.out.sets (stA S1 f5 s5 o5 k5).toList (by rfl)) (zab (B:=w5.heap.size) (b:=w5.heap.size) (Nat.le_refl _) (stA S1 f5 s5 o5 k5).toList 0 ((Below.refl _ _).alloc (Nat.le_refl _) (.cells stZ.toArray 43))));revert HK;generalize World.setCells _ _ _ _ = W9;intro HK;have hb:=HK.out.2;replace O1:=y45h HK.out.1;replace T:=y45h (T.out.later hb);replace BEL:=y45h (BEL.out.trans (hb.mono BEL.out.size));clear HK hb) | (refine wpList_load_mid (by rfl) 43 _ (by rfl) w5.heap.size 0 (by rfl) (stA S1 f5 s5 o5 k5).toList _ O1.out.range Tryz.underlying43 (by rfl) (by kernel_rfl) ?_) | (go_at_call 31;refine (CC _ _ _ _ _ T.out).out.mono ?_;rintro e w6 ⟨f6,s6,o6,k6,rfl,hst,hb⟩;have j1:f6.oneCell' = true:=zar hst.lf;have j2:s6.oneCell' = true:=(by obtain ⟨_,_,_,_,e,_⟩:=hst.ls;rw [e];rfl);have j3:o6.oneCell' = true:=(by obtain ⟨_,_,_,_,e,_⟩:=hst.lo;rw [e];rfl);have j4:k6.oneCell' = true:=(by obtain ⟨_,_,e⟩:=hst.lk.val;rw [e];rfl);unfold Value.oneCell' at j1 j2 j3 j4;replace BEL:=y45h (BEL.out.trans (hb.mono BEL.out.size));have V:=y45h hst;have O3:=y45h (Own.new w6 stZ.toArray 43);clear hst hb) | (refine wpList_store_mid (by rfl) 43 _ _ (by rfl) w6.heap.size 0 (stA S2 f6 s6 o6 k6) (by rfl) (by rfl) (O3.out.there (by rfl)) (by kernel_rfl) (by simp [Value.oneCell',j1,j2,j3,j4]) ?_;have HK:=y45h (And.intro (O3.out.sets (stA S2 f6 s6 o6 k6).toList (by rfl)) (zab (B:=w6.heap.size) (b:=w6.heap.size) (Nat.le_refl _) (stA S2 f6 s6 o6 k6).toList 0 ((Below.refl _ _).alloc (Nat.le_refl _) (.cells stZ.toArray 43))));revert HK;generalize World.setCells _ _ _ _ = W10;intro HK;have hb:=HK.out.2;replace O3:=y45h HK.out.1;replace V:=y45h (V.out.later hb);replace BEL:=y45h (BEL.out.trans (hb.mono BEL.out.size));clear HK hb) | (refine wpList_load_mid (by rfl) 43 _ (by rfl) w6.heap.size 0 (by rfl) (stA S2 f6 s6 o6 k6).toList _ O3.out.range Tryz.underlying43 (by rfl) (by kernel_rfl) ?_) | (refine zce (by rfl) 43 _ (by rfl) w6.heap.size 0 (by rfl) (stA S2 f6 s6 o6 k6).toList _ O3.out.range Tryz.underlying43 (by rfl) (by kernel_rfl) ?_) | (go_at_call 21;refine (CR _ _ _ _ _ V.out).out.mono ?_;rintro e w7 ⟨va,rfl,hr,hb⟩;obtain ⟨oa,ca,ba,ob,rfl,hr⟩:=hr;obtain ⟨rfl,hb0⟩:=hr.at0 (by simp);have c0:=hr.cell 0 _ rfl 0 _ rfl;have c1:=hr.cell 0 _ rfl 1 _ rfl;have c2:=hr.cell 0 _ rfl 2 _ rfl;have c3:=hr.cell 0 _ rfl 3 _ rfl;simp only [Nat.zero_mul,Nat.add_zero] at c0 c1 c2 c3;replace V:=y45h (V.out.later hb);replace O3:=y45h (O3.out.later hb);replace BEL:=y45h (BEL.out.trans (hb.mono BEL.out.size));clear hr hb;have C0:=y45h c0;have C1:=y45h c1;have C2:=y45h c2;have C3:=y45h c3;have Z0:=y45h hb0;clear c0 c1 c2 c3 hb0) | (go_at_call 11;refine (CM _ _ _ _ _ V.out).out.mono ?_;rintro e w8 ⟨rfl,hb⟩;replace O3:=y45h (O3.out.later hb);replace BEL:=y45h (BEL.out.trans (hb.mono BEL.out.size));have c0:=(hb.cell (p:=⟨ba,ob,none⟩) Z0.out).trans C0.out;have c1:=(hb.cell (p:=⟨ba,ob + 1,none⟩) Z0.out).trans C1.out;have c2:=(hb.cell (p:=⟨ba,ob + 2,none⟩) Z0.out).trans C2.out;have c3:=(hb.cell (p:=⟨ba,ob + 3,none⟩) Z0.out).trans C3.out;have l3:=O3.out.cell;have z3:=O3.out.lt;have zb:=Nat.lt_of_lt_of_le Z0.out hb.size;have hs:=HS0.out;clear hb) | fail)
 go_ret
 exact ⟨rfl,BEL.out⟩
def ztn (k:Pr):Prop:=∀ (q:Pr) (v v':Value) (w:World),LP w k v → LP w q v' →
   Calls Tryz.prog 29 #[.agg #[.int .i64 k.op,.string k.text,.int .i64 k.n,.complex .f64 k.x k.y,v],.agg #[.int .i64 q.op,.string q.text,.int .i64 q.n,.complex .f64 q.x q.y,v']] w fun e w'=>e = .returned (.bool (Pr.same k q)) ∧ Below w.heap.size w w'
theorem zqt (p:Pr):ztn p:=by
 induction p using Pr.ind with
 | h op t n x y l ih =>
   intro q v v' w hL hL'
   obtain ⟨op',t',n',x',y',m⟩:=q
   obtain ⟨oa,cap,b,o,V,rfl,_,hl,hc,hn,hcell,hrec⟩:=za9 hL
   obtain ⟨ob,cap',b',o',V',rfl,_,hl',hc',hn',hcell',hrec'⟩:=za9 hL'
   simp only [Pr.kids_node,Pr.text_node,Pr.op_node,Pr.n_node,Pr.x_node,Pr.y_node] at *
   unfold maxLen at hc hc'
   have HC:=y45h hcell
   have HR:=y45h hrec
   have HN:=y45h hn
   have HC':=y45h hcell'
   have HR':=y45h hrec'
   have HN':=y45h hn'
   have HH:=y45h ih
   clear hL hcell hrec hn hL' hcell' hrec' hn' ih
   have f2:Pr.same (.node op t n x y l) (.node op' t' n' x' y' m) = (decide (op = op') && (decide (t.toList = t'.toList) && (decide (n = n') && ((feq x x' && feq y y') && Pr.sames l m)))):=by simp [Pr.same]
   have HLen:=y45h (fun h=>Pr.sames_not_len (l:=l) (m:=m) h)
   rw [f2]
   clear f2
   generalize hs:Pr.sames l m = sm
   have HSM:=y45h hs
   clear hs
   rw [HSM.out] at HLen
   generalize hla:l.length = la at *
   generalize hlb:m.length = lb at *
   have HLA:=y45h hla
   have HLB:=y45h hlb
   clear hla hlb
   by_cases e1:¬ op = op'
   · go_enter Tryz.func29,Tryz.ntmps29
     go_wp2_with fail
     go_ret
     exact ⟨zaa (by simp [e1]),((Below.refl _ _).alloc (Nat.le_refl _) _).alloc (by simp) _⟩
   have e1:=Decidable.not_not.1 e1
   by_cases e2:¬ t.toList = t'.toList
   · subst e1
     go_enter Tryz.func29,Tryz.ntmps29
     go_wp2_with fail
     go_ret
     exact ⟨zaa (by simp [e2]),((Below.refl _ _).alloc (Nat.le_refl _) _).alloc (by simp) _⟩
   have e2:=Decidable.not_not.1 e2
   by_cases e3:¬ n = n'
   · subst e1
     go_enter Tryz.func29,Tryz.ntmps29
     go_wp2_with fail
     go_ret
     exact ⟨zaa (by simp [e3]),((Below.refl _ _).alloc (Nat.le_refl _) _).alloc (by simp) _⟩
   have e3:=Decidable.not_not.1 e3
   subst e1
   subst e3
   by_cases g4:¬ (FloatKind.f64.format.order x x' = some .eq)
   · have e4:feq x x' = false:=by simp [feq,g4]
     rw [e4]
     go_enter Tryz.func29,Tryz.ntmps29
     go_wp2_with fail
     go_ret
     exact ⟨zaa (by simp),((Below.refl _ _).alloc (Nat.le_refl _) _).alloc (by simp) _⟩
   have g4:=Decidable.not_not.1 g4
   have e4:feq x x' = true:=by simp [feq,g4]
   rw [e4]
   by_cases g5:¬ (FloatKind.f64.format.order y y' = some .eq)
   · have e5:feq y y' = false:=by simp [feq,g5]
     rw [e5]
     go_enter Tryz.func29,Tryz.ntmps29
     go_wp2_with fail
     go_ret
     exact ⟨zaa (by simp),((Below.refl _ _).alloc (Nat.le_refl _) _).alloc (by simp) _⟩
   have g5:=Decidable.not_not.1 g5
   have e5:feq y y' = true:=by simp [feq,g5]
   rw [e5]
   by_cases e6:¬ la = lb
   · have hz:=HLen.out e6
     subst hz
     go_enter Tryz.func29,Tryz.ntmps29
     go_wp2_with fail
     go_ret
     exact ⟨zaa (by simp),((Below.refl _ _).alloc (Nat.le_refl _) _).alloc (by simp) _⟩
   have e6:=Decidable.not_not.1 e6
   subst e6
   rw [decide_eq_true rfl,decide_eq_true e2,decide_eq_true rfl,Bool.true_and,Bool.true_and,Bool.true_and,Bool.true_and,Bool.true_and]
   go_enter Tryz.func29,Tryz.ntmps29
   go_wp2_with fail
   go_loopw [5] (fun i wr=>z1p l m la ((w.alloc (.cells #[.int .i64 op,.string t,.int .i64 n,.complex .f64 x y,.slice oa la cap] 40)).alloc (.cells #[.int .i64 op,.string t',.int .i64 n,.complex .f64 x' y',.slice ob la cap'] 40)) i wr) (fun i _=>la - (intOf i).toNat)
   case atStart=>exact ⟨0,Nat.zero_le _,rfl,by simp [Hid,Pr.sames],Below.refl _ _⟩
   case round =>
     obtain ⟨k,hk,rfl,HS,hb⟩:=hrel
     have G1:=y45h (((Has.new w #[.int .i64 op,.string t,.int .i64 n,.complex .f64 x y,.slice oa la cap] 40).alloc (.cells #[.int .i64 op,.string t',.int .i64 n,.complex .f64 x' y',.slice ob la cap'] 40)).below hb (by simp;omega))
     have G2:=y45h ((Own.newAt (w.alloc (.cells #[.int .i64 op,.string t,.int .i64 n,.complex .f64 x y,.slice oa la cap] 40)) #[.int .i64 op,.string t',.int .i64 n,.complex .f64 x' y',.slice ob la cap'] 40 (b:=w.heap.size + 1) (by simp)).has.below hb (by simp))
     by_cases hlt:k < la
     · obtain ⟨p,hp⟩:∃ p,l[k]? = some p:=⟨_,List.getElem?_eq_getElem (by rw [HLA.out];exact hlt)⟩
       obtain ⟨q,hq⟩:∃ q,m[k]? = some q:=⟨_,List.getElem?_eq_getElem (by rw [HLB.out];exact hlt)⟩
       obtain ⟨rfl,hB⟩:=HN.out (by omega)
       obtain ⟨rfl,hB'⟩:=HN'.out (by omega)
       obtain ⟨oq,cq,hV⟩:=zal (HR.out k p hp)
       obtain ⟨oq',cq',hV'⟩:=zal (HR'.out k q hq)
       have hbw:Below w.heap.size w wr:=zai (zai hb)
       obtain ⟨c0,c1,c2,c3,c4⟩:=zcd (w:=wr) (fun j u hu=>(hbw.cell (p:=⟨b,o + k * 5 + j,none⟩) hB).trans (HC.out k p hp j u hu))
       obtain ⟨d0,d1,d2,d3,d4⟩:=zcd (w:=wr) (fun j u hu=>(hbw.cell (p:=⟨b',o' + k * 5 + j,none⟩) hB').trans (HC'.out k q hq j u hu))
       have L0:=(HR.out k p hp).later hbw (Nat.le_refl _)
       have M0:=(HR'.out k q hq).later hbw (Nat.le_refl _)
       rw [hV] at c4 L0
       rw [hV'] at d4 M0
       have CC:=fun dd os=>HH.out p (List.mem_of_getElem? hp) q (.slice oq p.kids.length cq) (.slice oq' q.kids.length cq') (Sort.grow (redrawn wr dd) os) (L0.later (below_regrown _ _ _) (Nat.le_refl _)) (M0.later (below_regrown _ _ _) (Nat.le_refl _))
       have HB:=y45h hb
       have HS0:=HS.out
       have r0:=fun dd os=>cell_regrown c0 dd os
       have r1:=fun dd os=>cell_regrown c1 dd os
       have r2:=fun dd os=>cell_regrown c2 dd os
       have r3:=fun dd os=>cell_regrown c3 dd os
       have r4:=fun dd os=>cell_regrown c4 dd os
       have s0:=fun dd os=>cell_regrown d0 dd os
       have s1:=fun dd os=>cell_regrown d1 dd os
       have s2:=fun dd os=>cell_regrown d2 dd os
       have s3:=fun dd os=>cell_regrown d3 dd os
       have s4:=fun dd os=>cell_regrown d4 dd os
       have LA:=fun dd os o=>G1.out.regrown dd os o
       have LB:=fun dd os o=>G2.out.regrown dd os o
       have l1:=G1.out.cell
       have l2:=G2.out.cell
       cases hs:Pr.same p q
       · have HF:=y45h (Pr.sames_at hp hq hs)
         rw [hs] at CC
         have m3:=fun dd os=>y45h (Calls.regrown_of (CC dd os))
         clear hb hV hV' L0 M0 HS0 hs hp hq CC hbw
         go_wp2_with fail
         refine wp_region_quiet_below (by kernel_rfl) (by kernel_rfl) ?_
         repeat (first | go_big_quiet_step ((with_reducible exact (m3 _ _).out)) | quiet_step (with_reducible exact (m3 _ _).out))
         refine wpQuiet_nil ?_
         intro w7 hw'
         have hb':=y45h (zac hw')
         clear hw' m3 r0 r1 r2 r3 r4 s0 s1 s2 s3 s4 LA LB
         go_wp2_with fail
         go_ret
         have HF:=HF.out
         rw [HSM.out] at HF
         exact ⟨zaa HF.symm,zai (zai (HB.out.trans (hb'.out.mono HB.out.size)))⟩
       · have HF:=y45h (Pr.sames_take hp hq HS0 hs)
         rw [hs] at CC
         have m3:=fun dd os=>y45h (Calls.regrown_of (CC dd os))
         clear hb hV hV' L0 M0 HS0 hs hp hq CC hbw
         go_wp2_with fail
         refine wp_region_quiet_below (by kernel_rfl) (by kernel_rfl) ?_
         repeat (first | go_big_quiet_step ((with_reducible exact (m3 _ _).out)) | quiet_step (with_reducible exact (m3 _ _).out))
         refine wpQuiet_nil ?_
         intro w7 hw'
         have hb':=y45h (zac hw')
         clear hw' m3 r0 r1 r2 r3 r4 s0 s1 s2 s3 s4 LA LB
         go_wp2_with fail
         go_roundw
         case rel=>exact ⟨k + 1,by omega,by go_num,HF.out,HB.out.trans (hb'.out.mono HB.out.size)⟩
         case measure=>simp [intOf];omega
     · have HB:=y45h hb
       clear hb
       have e:k = la:=by omega
       have h7:=HS.out
       rw [Pr.take_all l (by rw [HLA.out];omega),Pr.take_all m (by rw [HLB.out];omega),HSM.out] at h7
       subst h7
       clear e
       have l1:=G1.out.cell
       have l2:=G2.out.cell
       have z1:=G1.out.lt
       have z2:=G2.out.lt
       go_wp2_with fail
       go_ret
       exact ⟨rfl,zai (zai HB.out)⟩
theorem zgl (a b:St) (af asv ao ak bf bs bo bk:Value) (w:World) (hA:StW w a af asv ao ak) (hB:StW w b bf bs bo bk) :
   Calls Tryz.prog 16 #[stV a af asv ao ak,stV b bf bs bo bk] w fun e w'=>e = .returned (.bool (zf3 a b)) ∧ Below w.heap.size w w':=by
 have OA:=y45h ((Has.new w (stA a af asv ao ak) 43).alloc (.cells (stA b bf bs bo bk) 43))
 have OB:=y45h ((Own.newAt (w.alloc (.cells (stA a af asv ao ak) 43)) (stA b bf bs bo bk) 43 (b:=w.heap.size + 1) (by simp)).has)
 have BEL:=y45h (((Below.refl w.heap.size w).alloc (Nat.le_refl _) (.cells (stA a af asv ao ak) 43)).alloc (by simp) (.cells (stA b bf bs bo bk) 43))
 have LA:=y45h ((hA.alloc (.cells (stA a af asv ao ak) 43)).alloc (.cells (stA b bf bs bo bk) 43))
 have LB:=y45h ((hB.alloc (.cells (stA a af asv ao ak) 43)).alloc (.cells (stA b bf bs bo bk) 43))
 clear hA hB
 obtain ⟨r,f,l,o,k,count,clock,epoch⟩:=a
 obtain ⟨r',f',l',o',k',count',clock',epoch'⟩:=b
 have SF:=fun w' h h'=>y45h (zqt f f' af bf w' h h')
 have SS:=fun w' h h'=>y45h (zeb zcv zgb l l' asv bs w' h h')
 have SO:=fun w' h h'=>y45h (zeb zcv zgb o o' ao bo w' h h')
 have SK:=fun w' h h'=>y45h (zi6 k k' ak bk w' h h')
 have HE:=y45h (show zf3 ⟨r,f,l,o,k,count,clock,epoch⟩ ⟨r',f',l',o',k',count',clock',epoch'⟩ = ((decide (r = r') && (decide (count = count') && (decide (clock = clock') && decide (epoch = epoch')))) && (Pr.same f f' && (zbt zcv l l' && (zbt zcv o o' && zbp k k')))) from rfl)
 generalize zf3 ⟨r,f,l,o,k,count,clock,epoch⟩ ⟨r',f',l',o',k',count',clock',epoch'⟩ = res at *
 try simp only at OA OB LA LB BEL
 have lOA:=OA.out.cell
 have zOA:=OA.out.lt
 have lOB:=OB.out.cell
 have zOB:=OB.out.lt
 by_cases h1:r = r'
 case neg =>
   have E:=y45h (show res = false by rw [HE.out];simp [h1])
   have e1:(r == r') = false:=by simpa using h1
   have e2:(r != r') = true:=by simpa using h1
   clear HE h1
   go_enter Tryz.func16,Tryz.ntmps16
   go_wp2_with fail
   go_ret
   exact ⟨zaa E.out.symm,BEL.out⟩
 subst h1
 by_cases h2:count = count'
 case neg =>
   have E:=y45h (show res = false by rw [HE.out];simp [h2])
   have e1:(count == count') = false:=by simpa using h2
   have e2:(count != count') = true:=by simpa using h2
   clear HE h2
   go_enter Tryz.func16,Tryz.ntmps16
   go_wp2_with fail
   go_ret
   exact ⟨zaa E.out.symm,BEL.out⟩
 subst h2
 by_cases h3:clock = clock'
 case neg =>
   have E:=y45h (show res = false by rw [HE.out];simp [h3])
   have e1:(clock == clock') = false:=by simpa using h3
   have e2:(clock != clock') = true:=by simpa using h3
   clear HE h3
   go_enter Tryz.func16,Tryz.ntmps16
   go_wp2_with fail
   go_ret
   exact ⟨zaa E.out.symm,BEL.out⟩
 subst h3
 by_cases h4:epoch = epoch'
 case neg =>
   have E:=y45h (show res = false by rw [HE.out];simp [h4])
   have e1:(epoch == epoch') = false:=by simpa using h4
   have e2:(epoch != epoch') = true:=by simpa using h4
   clear HE h4
   go_enter Tryz.func16,Tryz.ntmps16
   go_wp2_with fail
   go_ret
   exact ⟨zaa E.out.symm,BEL.out⟩
 subst h4
 have E:=y45h (show res = (Pr.same f f' && (zbt zcv l l' && (zbt zcv o o' && zbp k k'))) by rw [HE.out];simp)
 clear HE
 generalize Pr.same f f' = x1 at *
 generalize zbt zcv l l' = x2 at *
 generalize zbt zcv o o' = x3 at *
 generalize zbp k k' = x4 at *
 go_enter Tryz.func16,Tryz.ntmps16
 go_upto_region 4 with (first | (go_at_call 29;with_reducible refine (SF _ LA.out.lf LB.out.lf).out.mono ?_;rintro e w1 ⟨rfl,hb⟩;replace OA:=y45h (OA.out.below hb OA.out.lt);replace OB:=y45h (OB.out.below hb OB.out.lt);replace LA:=y45h (LA.out.later hb);replace LB:=y45h (LB.out.later hb);replace BEL:=y45h (BEL.out.trans (hb.mono BEL.out.size));clear hb;replace lOA:=OA.out.cell;replace zOA:=OA.out.lt;replace lOB:=OB.out.cell;replace zOB:=OB.out.lt) | fail)
 clear SF
 go_upto_region 5 with (first | (go_at_call 26;with_reducible refine (SS _ LA.out.ls LB.out.ls).out.mono ?_;rintro e w2 ⟨rfl,hb⟩;replace OA:=y45h (OA.out.below hb OA.out.lt);replace OB:=y45h (OB.out.below hb OB.out.lt);replace LA:=y45h (LA.out.later hb);replace LB:=y45h (LB.out.later hb);replace BEL:=y45h (BEL.out.trans (hb.mono BEL.out.size));clear hb;replace lOA:=OA.out.cell;replace zOA:=OA.out.lt;replace lOB:=OB.out.cell;replace zOB:=OB.out.lt) | fail)
 clear SS
 go_upto_region 6 with (first | (go_at_call 26;with_reducible refine (SO _ LA.out.lo LB.out.lo).out.mono ?_;rintro e w3 ⟨rfl,hb⟩;replace OA:=y45h (OA.out.below hb OA.out.lt);replace OB:=y45h (OB.out.below hb OB.out.lt);replace LA:=y45h (LA.out.later hb);replace LB:=y45h (LB.out.later hb);replace BEL:=y45h (BEL.out.trans (hb.mono BEL.out.size));clear hb;replace lOA:=OA.out.cell;replace zOA:=OA.out.lt;replace lOB:=OB.out.cell;replace zOB:=OB.out.lt) | fail)
 clear SO
 cases x1
 case false =>
   go_wp2_with (first | (go_at_call 47;with_reducible refine (SK _ LA.out.lk LB.out.lk).out.mono ?_;rintro e w4 ⟨rfl,hb⟩;replace OA:=y45h (OA.out.below hb OA.out.lt);replace OB:=y45h (OB.out.below hb OB.out.lt);replace LA:=y45h (LA.out.later hb);replace LB:=y45h (LB.out.later hb);replace BEL:=y45h (BEL.out.trans (hb.mono BEL.out.size));clear hb;replace lOA:=OA.out.cell;replace zOA:=OA.out.lt;replace lOB:=OB.out.cell;replace zOB:=OB.out.lt) | fail)
   go_ret
   exact ⟨zaa (by rw [E.out];simp),BEL.out⟩
 cases x2
 case false =>
   go_wp2_with (first | (go_at_call 47;with_reducible refine (SK _ LA.out.lk LB.out.lk).out.mono ?_;rintro e w4 ⟨rfl,hb⟩;replace OA:=y45h (OA.out.below hb OA.out.lt);replace OB:=y45h (OB.out.below hb OB.out.lt);replace LA:=y45h (LA.out.later hb);replace LB:=y45h (LB.out.later hb);replace BEL:=y45h (BEL.out.trans (hb.mono BEL.out.size));clear hb;replace lOA:=OA.out.cell;replace zOA:=OA.out.lt;replace lOB:=OB.out.cell;replace zOB:=OB.out.lt) | fail)
   go_ret
   exact ⟨zaa (by rw [E.out];simp),BEL.out⟩
 cases x3
 case false =>
   go_wp2_with (first | (go_at_call 47;with_reducible refine (SK _ LA.out.lk LB.out.lk).out.mono ?_;rintro e w4 ⟨rfl,hb⟩;replace OA:=y45h (OA.out.below hb OA.out.lt);replace OB:=y45h (OB.out.below hb OB.out.lt);replace LA:=y45h (LA.out.later hb);replace LB:=y45h (LB.out.later hb);replace BEL:=y45h (BEL.out.trans (hb.mono BEL.out.size));clear hb;replace lOA:=OA.out.cell;replace zOA:=OA.out.lt;replace lOB:=OB.out.cell;replace zOB:=OB.out.lt) | fail)
   go_ret
   exact ⟨zaa (by rw [E.out];simp),BEL.out⟩
 go_wp2_with (first | (go_at_call 47;with_reducible refine (SK _ LA.out.lk LB.out.lk).out.mono ?_;rintro e w4 ⟨rfl,hb⟩;replace OA:=y45h (OA.out.below hb OA.out.lt);replace OB:=y45h (OB.out.below hb OB.out.lt);replace LA:=y45h (LA.out.later hb);replace LB:=y45h (LB.out.later hb);replace BEL:=y45h (BEL.out.trans (hb.mono BEL.out.size));clear hb;replace lOA:=OA.out.cell;replace zOA:=OA.out.lt;replace lOB:=OB.out.cell;replace zOB:=OB.out.lt) | fail)
 go_ret
 exact ⟨zaa (by rw [E.out];simp),BEL.out⟩
theorem zi1 (s:St) (fv sv ov kv:Value) (r:Int) (f:Pr) (gv:Value) (w:World) (hS:SiW w s fv sv ov kv) (hL:LT w f gv) :
   Calls Tryz.prog 3 #[siV s fv sv ov kv,.int .i64 r,.agg #[.int .i64 f.op,.string f.text,.int .i64 f.n,.float .f64 f.x,.float .f64 f.y,gv]] w fun e w'=>e = .returned (.bool true) ∧ Below w.heap.size w w':=by
 have OA:=y45h ((Own.new w (siL s fv sv ov kv).toArray 33).alloc (.cells #[.int .i64 f.op,.string f.text,.int .i64 f.n,.float .f64 f.x,.float .f64 f.y,gv] 25))
 have OP:=y45h (Own.newAt (w.alloc (.cells (siL s fv sv ov kv).toArray 33)) #[.int .i64 f.op,.string f.text,.int .i64 f.n,.float .f64 f.x,.float .f64 f.y,gv] 25 (b:=w.heap.size + 1) (by simp))
 have BEL:=y45h (((Below.refl w.heap.size w).alloc (Nat.le_refl _) (.cells (siL s fv sv ov kv).toArray 33)).alloc (by simp) (.cells #[.int .i64 f.op,.string f.text,.int .i64 f.n,.float .f64 f.x,.float .f64 f.y,gv] 25))
 have HS:=y45h hS
 have HL:=y45h hL
 clear hS hL
 have CU:=fun w'=>y45h (zm0 w')
 have CF:=fun w' h=>y45h (zi9 s fv sv ov kv w' h)
 have CM:=fun w' h=>y45h (zgc f gv w' h)
 have hff:zcc s = 0 ∨ zcc s = 1:=by
   unfold zcc zih zc1
   split
   · exact .inl rfl
   · split <;> split <;> simp
 by_cases hz:zcc s = 0 ∨ 60 < f.size
 · have hways:(zcc s = 0 ∧ (if f.size ≤ 60 then (1:Int) else 0) = 0) ∨ (zcc s = 0 ∧ (if f.size ≤ 60 then (1:Int) else 0) = 1) ∨ (zcc s = 1 ∧ (if f.size ≤ 60 then (1:Int) else 0) = 0):=by
     by_cases h6:f.size ≤ 60
     · rw [if_pos h6]
       rcases hz with h | h
       · exact .inr (.inl ⟨h,rfl⟩)
       · omega
     · rw [if_neg h6]
       rcases hff with h | h
       · exact .inl ⟨h,rfl⟩
       · exact .inr (.inr ⟨h,rfl⟩)
   clear hz hff
   rcases hways with ⟨h1,h2⟩ | ⟨h1,h2⟩ | ⟨h1,h2⟩
   all_goals
     rw [h1] at CF
     rw [h2] at CM
     clear h1 h2
     go_enter Tryz.func3,Tryz.ntmps3
     go_upto_region 2 with (first | (go_at_call 7;refine (CU _).out.mono ?_;rintro e w1 ⟨rfl,hb⟩;replace OA:=y45h (OA.out.later hb);replace OP:=y45h (OP.out.later hb);replace BEL:=y45h (BEL.out.trans (hb.mono BEL.out.size));clear hb) | fail)
     replace OA:=y45h OA.out.drew
     replace OP:=y45h OP.out.drew
     replace BEL:=y45h BEL.out.drew
     refine wp_region_held_drew (S:=(fun w'=>(∀ o,w'.cell? ⟨w.heap.size,o,none⟩ = (siL s fv sv ov kv).toArray[o]?) ∧ ∀ o,w'.cell? ⟨w.heap.size + 1,o,none⟩ = (#[.int .i64 f.op,.string f.text,.int .i64 f.n,.float .f64 f.x,.float .f64 f.y,gv]:Array Value)[o]?)) (by kernel_rfl) (by exact ⟨OA.out.cell,OP.out.cell⟩) (fun hHeld=>?_)
     refine wpAnyH_take (i:=0) (v:=siV s fv sv ov kv) rfl (by kernel_rfl) (by kernel_rfl) (by kernel_rfl) (fun _ _ _ h=>h) (Or.inl ⟨by rfl,fun w5 h5=>zbc 33 _ rfl w.heap.size 0 (by rfl) (siL s fv sv ov kv) _ (fun j v hv=>by rw [Nat.zero_add,h5.1 j];simpa using hv) Tryz.underlying33 (by rfl) (by kernel_rfl)⟩) (by assumption) ?_
     try simp only [Act.put,y45a,y45b,y45c,y45d,y45e,y45f]
     refine wpAnyH_take (i:=2) (v:=?_) rfl (by kernel_rfl) (by kernel_rfl) (by kernel_rfl) (fun _ _ _ h=>h) (Or.inl ⟨by rfl,?_⟩) (by assumption) ?_
     rotate_left 1
     · (intro w hSw;(try dsimp only at hSw);go_simp;try with_reducible rfl)
     try simp only [Act.put,y45a,y45b,y45c,y45d,y45e,y45f]
     refine wpAnyH_ready (rs:=[1]) (by kernel_rfl) (by simp) ?_
     refine AllReadyH.cons rfl (fun K hK=>?_) AllReadyH.nil
     try simp only [y45a,y45b,y45c]
     (go_simp;go_at_call 8;refine (CF _ (HS.out.later BEL.out)).out.mono ?_;rintro e w2 ⟨rfl,hb⟩;replace OA:=y45h (OA.out.later hb);replace OP:=y45h (OP.out.later hb);replace BEL:=y45h (BEL.out.trans (hb.mono BEL.out.size));clear hb)
     try go_wp2_with fail
     refine hK.out _ _ (by exact ⟨OA.out.cell,OP.out.cell⟩) (fun hHeld=>?_)
     clear hK K
     try simp only [Act.put,y45a,y45b,y45c,y45d,y45e,y45f]
     refine wpAnyH_ready (rs:=[3]) (by kernel_rfl) (by simp) ?_
     refine AllReadyH.cons rfl (fun K hK=>?_) AllReadyH.nil
     try simp only [y45a,y45b,y45c]
     (go_simp;go_at_call 9;refine (CM _ (HL.out.later BEL.out (Nat.le_refl _))).out.mono ?_;rintro e w2b ⟨rfl,hb⟩;replace OA:=y45h (OA.out.later hb);replace OP:=y45h (OP.out.later hb);replace BEL:=y45h (BEL.out.trans (hb.mono BEL.out.size));clear hb)
     try go_wp2_with fail
     refine hK.out _ _ (by exact ⟨OA.out.cell,OP.out.cell⟩) (fun hHeld=>?_)
     clear hK K
     try simp only [Act.put,y45a,y45b,y45c,y45d,y45e,y45f]
     refine wpAnyH_take (i:=4) (v:=?_) rfl (by kernel_rfl) (by kernel_rfl) (by kernel_rfl) (fun _ _ _ h=>h) (Or.inl ⟨by rfl,?_⟩) (by assumption) ?_
     rotate_left 1
     · (intro w hSw;(try dsimp only at hSw);go_simp;try with_reducible rfl)
     try simp only [Act.put,y45a,y45b,y45c,y45d,y45e,y45f]
     refine wpAnyH_take (i:=5) (v:=?_) rfl (by kernel_rfl) (by kernel_rfl) (by kernel_rfl) (fun _ _ _ h=>h) (Or.inl ⟨by rfl,?_⟩) (by assumption) ?_
     rotate_left 1
     · (intro w hSw;(try dsimp only at hSw);go_simp;try with_reducible rfl)
     try simp only [Act.put,y45a,y45b,y45c,y45d,y45e,y45f]
     refine wpAnyH_done (by kernel_rfl) ?_ _
     clear hHeld
     go_wp2_with fail
     go_ret
     exact ⟨rfl,BEL.out⟩
 · have h1:zcc s = 1:=by rcases hff with h | h;exact absurd (.inl h) hz;exact h
   have h2:f.size ≤ 60:=by omega
   have HB:=y45h (zq9 h1)
   rw [h1] at CF
   rw [if_pos h2] at CM
   clear hz hff h1
   have CS:=fun w' h=>y45h (zjh s fv sv ov kv w' h HB.out.f (Nat.le_trans HB.out.ls (by decide)) (Nat.le_trans HB.out.lo (by decide)))
   have CP:=fun w' h=>y45h (zey f gv w' h h2)
   have CN:=fun v w' h=>y45h (newC r f v w' h h2)
   have CR:=fun v w' h=>y45h (newD r f v w' h h2)
   have CA:=fun af asv ao ak bf bs bo bk w' hA hB=>y45h (zzp r f ▸ zgl (newT r f) (newT r f) af asv ao ak bf bs bo bk w' hA hB)
   have CE:=fun w'=>y45h (zel (zzn r f) w')
   clear h2
   go_enter Tryz.func3,Tryz.ntmps3
   go_upto_region 2 with (first | (go_at_call 7;refine (CU _).out.mono ?_;rintro e w1 ⟨rfl,hb⟩;replace OA:=y45h (OA.out.later hb);replace OP:=y45h (OP.out.later hb);replace BEL:=y45h (BEL.out.trans (hb.mono BEL.out.size));clear hb) | fail)
   replace OA:=y45h OA.out.drew
   replace OP:=y45h OP.out.drew
   replace BEL:=y45h BEL.out.drew
   refine wp_region_held_drew (S:=(fun w'=>(∀ o,w'.cell? ⟨w.heap.size,o,none⟩ = (siL s fv sv ov kv).toArray[o]?) ∧ ∀ o,w'.cell? ⟨w.heap.size + 1,o,none⟩ = (#[.int .i64 f.op,.string f.text,.int .i64 f.n,.float .f64 f.x,.float .f64 f.y,gv]:Array Value)[o]?)) (by kernel_rfl) (by exact ⟨OA.out.cell,OP.out.cell⟩) (fun hHeld=>?_)
   refine wpAnyH_take (i:=0) (v:=siV s fv sv ov kv) rfl (by kernel_rfl) (by kernel_rfl) (by kernel_rfl) (fun _ _ _ h=>h) (Or.inl ⟨by rfl,fun w5 h5=>zbc 33 _ rfl w.heap.size 0 (by rfl) (siL s fv sv ov kv) _ (fun j v hv=>by rw [Nat.zero_add,h5.1 j];simpa using hv) Tryz.underlying33 (by rfl) (by kernel_rfl)⟩) (by assumption) ?_
   try simp only [Act.put,y45a,y45b,y45c,y45d,y45e,y45f]
   refine wpAnyH_take (i:=2) (v:=?_) rfl (by kernel_rfl) (by kernel_rfl) (by kernel_rfl) (fun _ _ _ h=>h) (Or.inl ⟨by rfl,?_⟩) (by assumption) ?_
   rotate_left 1
   · (intro w hSw;(try dsimp only at hSw);go_simp;try with_reducible rfl)
   try simp only [Act.put,y45a,y45b,y45c,y45d,y45e,y45f]
   refine wpAnyH_ready (rs:=[1]) (by kernel_rfl) (by simp) ?_
   refine AllReadyH.cons rfl (fun K hK=>?_) AllReadyH.nil
   try simp only [y45a,y45b,y45c]
   (go_simp;go_at_call 8;refine (CF _ (HS.out.later BEL.out)).out.mono ?_;rintro e w2 ⟨rfl,hb⟩;replace OA:=y45h (OA.out.later hb);replace OP:=y45h (OP.out.later hb);replace BEL:=y45h (BEL.out.trans (hb.mono BEL.out.size));clear hb)
   try go_wp2_with fail
   refine hK.out _ _ (by exact ⟨OA.out.cell,OP.out.cell⟩) (fun hHeld=>?_)
   clear hK K
   try simp only [Act.put,y45a,y45b,y45c,y45d,y45e,y45f]
   refine wpAnyH_ready (rs:=[3]) (by kernel_rfl) (by simp) ?_
   refine AllReadyH.cons rfl (fun K hK=>?_) AllReadyH.nil
   try simp only [y45a,y45b,y45c]
   (go_simp;go_at_call 9;refine (CM _ (HL.out.later BEL.out (Nat.le_refl _))).out.mono ?_;rintro e w2b ⟨rfl,hb⟩;replace OA:=y45h (OA.out.later hb);replace OP:=y45h (OP.out.later hb);replace BEL:=y45h (BEL.out.trans (hb.mono BEL.out.size));clear hb)
   try go_wp2_with fail
   refine hK.out _ _ (by exact ⟨OA.out.cell,OP.out.cell⟩) (fun hHeld=>?_)
   clear hK K
   try simp only [Act.put,y45a,y45b,y45c,y45d,y45e,y45f]
   refine wpAnyH_take (i:=4) (v:=?_) rfl (by kernel_rfl) (by kernel_rfl) (by kernel_rfl) (fun _ _ _ h=>h) (Or.inl ⟨by rfl,?_⟩) (by assumption) ?_
   rotate_left 1
   · (intro w hSw;(try dsimp only at hSw);go_simp;try with_reducible rfl)
   try simp only [Act.put,y45a,y45b,y45c,y45d,y45e,y45f]
   refine wpAnyH_take (i:=5) (v:=?_) rfl (by kernel_rfl) (by kernel_rfl) (by kernel_rfl) (fun _ _ _ h=>h) (Or.inl ⟨by rfl,?_⟩) (by assumption) ?_
   rotate_left 1
   · (intro w hSw;(try dsimp only at hSw);go_simp;try with_reducible rfl)
   try simp only [Act.put,y45a,y45b,y45c,y45d,y45e,y45f]
   refine wpAnyH_done (by kernel_rfl) ?_ _
   clear hHeld
   have hkv:kv.oneCell' = true:=by obtain ⟨_,_,e⟩:=HS.out.lk.val;rw [e];rfl
   go_upto_region 5 with (first | (refine wpList_load_mid (by rfl) 33 _ (by rfl) w.heap.size 0 (by rfl) (siL s fv sv ov kv) _ OA.out.range Tryz.underlying33 (by rfl) (by kernel_rfl) ?_) | (go_at_call 10;refine (CS _ (HS.out.later BEL.out)).out.mono ?_;rintro e w3 ⟨fx,sx,ox,rfl,hst,hb⟩;have g1:fx.oneCell' = true:=zar hst.lf;have g2:sx.oneCell' = true:=(by obtain ⟨_,_,_,_,e,_⟩:=hst.ls;rw [e];rfl);have g3:ox.oneCell' = true:=(by obtain ⟨_,_,_,_,e,_⟩:=hst.lo;rw [e];rfl);have g4:kv.oneCell' = true:=(by obtain ⟨_,_,e⟩:=hst.lk.val;rw [e];rfl);unfold Value.oneCell' at g1 g2 g3 g4;replace OA:=y45h (OA.out.later hb);replace OP:=y45h (OP.out.later hb);replace BEL:=y45h (BEL.out.trans (hb.mono BEL.out.size));have X:=y45h hst;have O8:=y45h (Own.new w3 stZ.toArray 43);clear hst hb) | (refine wpList_store_mid (by rfl) 43 _ _ (by rfl) w3.heap.size 0 (stA s fx sx ox kv) (by rfl) (by rfl) (O8.out.there (by rfl)) (by kernel_rfl) (by simp [Value.oneCell',g1,g2,g3,g4]) ?_;have HK:=y45h (And.intro (O8.out.sets (stA s fx sx ox kv).toList (by rfl)) (zab (B:=w3.heap.size) (b:=w3.heap.size) (Nat.le_refl _) (stA s fx sx ox kv).toList 0 ((Below.refl _ _).alloc (Nat.le_refl _) (.cells stZ.toArray 43))));revert HK;generalize World.setCells _ _ _ _ = W8;intro HK;have hb:=HK.out.2;replace O8:=y45h HK.out.1;replace OA:=y45h (OA.out.later hb);replace OP:=y45h (OP.out.later hb);replace X:=y45h (X.out.later hb);replace BEL:=y45h (BEL.out.trans (hb.mono BEL.out.size));clear HK hb) | fail)
   replace OP:=y45h OP.out.drew
   replace O8:=y45h O8.out.drew
   replace X:=y45h X.out.drew
   replace BEL:=y45h BEL.out.drew
   refine wp_region_held_drew (S:=(fun w'=>∀ o,w'.cell? ⟨w3.heap.size,o,none⟩ = (stA s fx sx ox kv)[o]?)) (by kernel_rfl) (by exact O8.out.cell) (fun hHeld=>?_)
   refine wpAnyH_take (i:=0) (v:=stV s fx sx ox kv) rfl (by kernel_rfl) (by kernel_rfl) (by kernel_rfl) (fun _ _ _ h=>h) (Or.inl ⟨by rfl,fun w5 h5=>zbc 43 _ rfl w3.heap.size 0 (by rfl) (stA s fx sx ox kv).toList _ (fun j v hv=>by rw [Nat.zero_add,h5 j];simpa using hv) Tryz.underlying43 (by rfl) (by kernel_rfl)⟩) (by assumption) ?_
   try simp only [Act.put,y45a,y45b,y45c,y45d,y45e,y45f]
   refine wpAnyH_take (i:=2) (v:=stV s fx sx ox kv) rfl (by kernel_rfl) (by kernel_rfl) (by kernel_rfl) (fun _ _ _ h=>h) (Or.inl ⟨by rfl,fun w5 h5=>zbc 43 _ rfl w3.heap.size 0 (by rfl) (stA s fx sx ox kv).toList _ (fun j v hv=>by rw [Nat.zero_add,h5 j];simpa using hv) Tryz.underlying43 (by rfl) (by kernel_rfl)⟩) (by assumption) ?_
   try simp only [Act.put,y45a,y45b,y45c,y45d,y45e,y45f]
   refine wpAnyH_ready (rs:=[1]) (by kernel_rfl) (by simp) ?_
   refine AllReadyH.cons rfl (fun K hK=>?_) AllReadyH.nil
   try simp only [y45a,y45b,y45c]
   (go_simp;go_at_call 11;refine (zgh s fx sx ox kv _ X.out HB.out).mono ?_;rintro e wm ⟨rfl,hb⟩;replace OP:=y45h (OP.out.later hb);replace O8:=y45h (O8.out.later hb);replace X:=y45h (X.out.later hb);replace BEL:=y45h (BEL.out.trans (hb.mono BEL.out.size));clear hb)
   try go_wp2_with fail
   refine hK.out _ _ (by exact O8.out.cell) (fun hHeld=>?_)
   clear hK K
   try simp only [Act.put,y45a,y45b,y45c,y45d,y45e,y45f]
   refine wpAnyH_ready (rs:=[3]) (by kernel_rfl) (by simp) ?_
   refine AllReadyH.cons rfl (fun K hK=>?_) AllReadyH.nil
   try simp only [y45a,y45b,y45c]
   (go_simp;go_at_call 12;refine (zeq s fx sx ox kv _ X.out HB.out).mono ?_;rintro e wn ⟨rfl,hb⟩;replace OP:=y45h (OP.out.later hb);replace O8:=y45h (O8.out.later hb);replace X:=y45h (X.out.later hb);replace BEL:=y45h (BEL.out.trans (hb.mono BEL.out.size));clear hb)
   try go_wp2_with fail
   refine hK.out _ _ (by exact O8.out.cell) (fun hHeld=>?_)
   clear hK K
   try simp only [Act.put,y45a,y45b,y45c,y45d,y45e,y45f]
   refine wpAnyH_take (i:=4) (v:=?_) rfl (by kernel_rfl) (by kernel_rfl) (by kernel_rfl) (fun _ _ _ h=>h) (Or.inl ⟨by rfl,?_⟩) (by assumption) ?_
   rotate_left 1
   · (intro w hSw;(try dsimp only at hSw);go_simp;try with_reducible rfl)
   try simp only [Act.put,y45a,y45b,y45c,y45d,y45e,y45f]
   refine wpAnyH_done (by kernel_rfl) ?_ _
   clear hHeld
   have hmm:(mayS s != mayS s) = false:=by simp
   generalize newT r f = N at *
   generalize newE r f = E at *
   go_wp2_with (first | (refine wpList_load_mid (by rfl) 25 _ (by rfl) (w.heap.size + 1) 0 (by rfl) #[.int .i64 f.op,.string f.text,.int .i64 f.n,.float .f64 f.x,.float .f64 f.y,gv].toList _ OP.out.range Tryz.underlying25 (by rfl) (by kernel_rfl) ?_) | (go_at_call 14;refine (CP _ (HL.out.later BEL.out (Nat.le_refl _))).out.mono ?_;rintro e w6 ⟨v6,rfl,hl6,hb⟩;replace OP:=y45h (OP.out.later hb);replace T:=y45h (T.out.later hb);replace O9:=y45h (O9.out.later hb);replace BEL:=y45h (BEL.out.trans (hb.mono BEL.out.size));have P6:=y45h (show LP w6 f v6 from hl6.mono (fun _ _ _=>rfl) fun _ h=>h.2);clear hl6 hb) | (go_at_call 14;refine (CP _ (HL.out.later BEL.out (Nat.le_refl _))).out.mono ?_;rintro e w4 ⟨v4,rfl,hl4,hb⟩;replace OP:=y45h (OP.out.later hb);replace BEL:=y45h (BEL.out.trans (hb.mono BEL.out.size));have P4:=y45h (show LP w4 f v4 from hl4.mono (fun _ _ _=>rfl) fun _ h=>h.2);clear hl4 hb) | (go_at_call 13;refine (CN _ _ P4.out).out.mono ?_;rintro e w5 ⟨f5,s5,o5,k5,rfl,hst,hb⟩;have h1:f5.oneCell' = true:=zar hst.lf;have h2:s5.oneCell' = true:=(by obtain ⟨_,_,_,_,e,_⟩:=hst.ls;rw [e];rfl);have h3:o5.oneCell' = true:=(by obtain ⟨_,_,_,_,e,_⟩:=hst.lo;rw [e];rfl);have h4:k5.oneCell' = true:=(by obtain ⟨_,_,e⟩:=hst.lk.val;rw [e];rfl);unfold Value.oneCell' at h1 h2 h3 h4;replace OP:=y45h (OP.out.later hb);replace BEL:=y45h (BEL.out.trans (hb.mono BEL.out.size));have T:=y45h hst;have O9:=y45h (Own.new w5 stZ.toArray 43);clear hst hb) | (refine wpList_store_mid (by rfl) 43 _ _ (by rfl) w5.heap.size 0 (stA N f5 s5 o5 k5) (by rfl) (by rfl) (O9.out.there (by rfl)) (by kernel_rfl) (by simp [Value.oneCell',h1,h2,h3,h4]) ?_;have HK:=y45h (And.intro (O9.out.sets (stA N f5 s5 o5 k5).toList (by rfl)) (zab (B:=w5.heap.size) (b:=w5.heap.size) (Nat.le_refl _) (stA N f5 s5 o5 k5).toList 0 ((Below.refl _ _).alloc (Nat.le_refl _) (.cells stZ.toArray 43))));revert HK;generalize World.setCells _ _ _ _ = W9;intro HK;have hb:=HK.out.2;replace O9:=y45h HK.out.1;replace OP:=y45h (OP.out.later hb);replace T:=y45h (T.out.later hb);replace BEL:=y45h (BEL.out.trans (hb.mono BEL.out.size));clear HK hb) | (go_at_call 15;refine (CR _ _ P6.out).out.mono ?_;rintro e w7 ⟨f7,s7,o7,k7,rfl,hst,hb⟩;have j1:f7.oneCell' = true:=zar hst.lf;have j2:s7.oneCell' = true:=(by obtain ⟨_,_,_,_,e,_⟩:=hst.ls;rw [e];rfl);have j3:o7.oneCell' = true:=(by obtain ⟨_,_,_,_,e,_⟩:=hst.lo;rw [e];rfl);have j4:k7.oneCell' = true:=(by obtain ⟨_,_,e⟩:=hst.lk.val;rw [e];rfl);unfold Value.oneCell' at j1 j2 j3 j4;replace T:=y45h (T.out.later hb);replace O9:=y45h (O9.out.later hb);replace BEL:=y45h (BEL.out.trans (hb.mono BEL.out.size));have V:=y45h hst;have O11:=y45h (Own.new w7 stZ.toArray 43);clear hst hb) | (refine wpList_store_mid (by rfl) 43 _ _ (by rfl) w7.heap.size 0 (stA N f7 s7 o7 k7) (by rfl) (by rfl) (O11.out.there (by rfl)) (by kernel_rfl) (by simp [Value.oneCell',j1,j2,j3,j4]) ?_;have HK:=y45h (And.intro (O11.out.sets (stA N f7 s7 o7 k7).toList (by rfl)) (zab (B:=w7.heap.size) (b:=w7.heap.size) (Nat.le_refl _) (stA N f7 s7 o7 k7).toList 0 ((Below.refl _ _).alloc (Nat.le_refl _) (.cells stZ.toArray 43))));revert HK;generalize World.setCells _ _ _ _ = W11;intro HK;have hb:=HK.out.2;replace O11:=y45h HK.out.1;replace T:=y45h (T.out.later hb);replace O9:=y45h (O9.out.later hb);replace V:=y45h (V.out.later hb);replace BEL:=y45h (BEL.out.trans (hb.mono BEL.out.size));clear HK hb) | (refine wpList_load_mid (by rfl) 43 _ (by rfl) w5.heap.size 0 (by rfl) (stA N f5 s5 o5 k5).toList _ O9.out.range Tryz.underlying43 (by rfl) (by kernel_rfl) ?_) | (refine wpList_load_mid (by rfl) 43 _ (by rfl) w7.heap.size 0 (by rfl) (stA N f7 s7 o7 k7).toList _ O11.out.range Tryz.underlying43 (by rfl) (by kernel_rfl) ?_) | (go_at_call 16;refine (CA _ _ _ _ _ _ _ _ _ T.out V.out).out.mono ?_;rintro e w8 ⟨rfl,hb⟩;replace BEL:=y45h (BEL.out.trans (hb.mono BEL.out.size));clear hb) | (go_at_call 17;refine (CE _).out.mono ?_;rintro e w9 ⟨rfl,rfl⟩) | fail)
   go_ret
   exact ⟨rfl,BEL.out⟩
end Go.Proofs.YthnllikalobmeaaGreat
