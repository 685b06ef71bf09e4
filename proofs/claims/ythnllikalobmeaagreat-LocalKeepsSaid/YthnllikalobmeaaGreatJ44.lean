/- Joined: LKeepM, Up9M, Up9. -/
import Derived.Test.YthnllikalobmeaaGreatJ38
import Derived.Test.YthnllikalobmeaaGreatJ40
import Derived.Test.YthnllikalobmeaaGreatJ43
namespace Go.Proofs.YthnllikalobmeaaGreat
set_option linter.unusedVariables false
set_option linter.unusedSimpArgs false
set_option maxRecDepth 100000
set_option maxHeartbeats 8000000
open Go.RowKit
theorem y44h {p:Prop} (h:p):Hid p:=Lib.hid h
theorem zgm {s:St} {d:De} (hG:Good s) (h:doE s d = 0):(za0 d.what = 3 ∧ doS s d = filF s d.f) ∨ (za0 d.what ≠ 3 ∧ ∃ x,doS s d = zas s x ∧ x.id = d.id ∧ x.d = decide (za0 d.what = 2)):=by
 by_cases hp:za0 d.what = 3
 · exact .inl ⟨hp,zwj h hp⟩
 · exact .inr ⟨hp,zn8 hG h hp⟩
theorem zwk {s:St} {d:De} (hG:Good s) (h:doE s d = 0):zdw (doS s d) s = false:=by
 rcases zgm hG h with ⟨_,e⟩ | ⟨_,x,e,_⟩
 · rw [e];exact zvb hG d.f
 · rw [e];exact ztg s s x rfl
theorem zu4 {s:St} {d:De} (hG:Good s) (h:doE s d = 0):((zah (doS s d).k.l).length ≤ (zah s.k.l).length + 1 ∨ (zah (doS s d).k.l).length ≤ 40) ∧ ((doS s d).k.l.length ≤ (zah s.k.l).length + 1 ∨ (doS s d).k.l.length ≤ 40):=by
 rcases zgm hG h with ⟨_,e⟩ | ⟨_,x,e,_⟩
 · rw [e,zoa hG]
   have h1:=zfa ⟨zac,(zao behT s.store s.out).flatMap zav⟩
   have h2:=(ze9 (zao behT s.store s.out)).1
   have h3:(zao behT s.store s.out).length ≤ 40:=Nat.le_trans zjx hG.n
   exact ⟨.inr (Nat.le_trans h1.1 (Nat.le_trans h2 h3)),.inr (Nat.le_trans h1.2 (Nat.le_trans h2 h3))⟩
 · rw [e]
   have h1:=zfa (ownK s.k x.id s.r (s.count + 1))
   have h2:(zah (ownK s.k x.id s.r (s.count + 1)).l).length ≤ (zah s.k.l).length + 1:=by
     unfold ownK
     split
     · rw [zeu];exact Nat.le_refl _
     · exact Nat.le_succ _
   exact ⟨.inl (Nat.le_trans h1.1 h2),.inl (Nat.le_trans h1.2 h2)⟩
theorem zsy {s:St} {d:De} (hG:Good s) (h:doE s d = 0) {id:ByteArray} (ha:za0 d.what = 3 ∨ id ≠ d.id):zad (doS s d) id = zad s id ∧ ((doS s d).epoch == s.epoch + 1) = (za0 d.what == 3):=by
 have hU:=zjt hG d
 rcases zgm hG h with ⟨hp,e⟩ | ⟨hp,x,e,hx,_⟩
 · rw [e] at hU
   rw [e,hp]
   refine ⟨zpc hG hU id,?_⟩
   rw [(zfg hG d.f).e]
   simp
 · rw [e] at hU
   have hid:id ≠ x.id:=by
     rcases ha with h3 | h3
     · exact absurd h3 hp
     · rw [hx];exact h3
   rw [e]
   refine ⟨zpu hG hU hid,?_⟩
   have h1:(za0 d.what == 3) = false:=by rw [beq_eq_false_iff_ne];exact hp
   rw [h1,beq_eq_false_iff_ne]
   show s.epoch ≠ s.epoch + 1
   omega
theorem zn1 {s:St} (hG:Good s) (id:ByteArray):zbx (zad s id).1 (zad s id).1 = true:=by
 cases hh:(zad s id).2 with
 | true =>
   have h:=(zf7 hG hh).1
   exact zec (zdq h).1 (zdq h).2
 | false =>
   rcases zcm hG id with ⟨i,_,_,hq⟩ | ⟨i,_,_,hq⟩ | ⟨_,_,hq⟩
   · rw [hq] at hh;cases hh
   · rw [hq] at hh;cases hh
   · rw [hq]
     exact zec (by decide) (by decide)
structure MadeK (s U:St) (id:ByteArray) (y:Itm) (b2 hb:Bool):Prop where
 st:zad U id = (y,true)
 r:y.r = s.r
 c:y.c = s.count + 1
 t:y.st = s.clock + 1
 d:y.d = b2
 inn:(getI U.store id).2 = hb
 has:hasT U.f y = hb
 seen:((zhg U).any fun i=>i.id.toList == id.toList) = (hb && !b2)
 kn:hasK U.k id s.r (s.count + 1) = true
 f:Pr.same U.f s.f = true
 ct:U.count = s.count + 1
theorem zu5 {s:St} {d:De} (hG:Good s) (h:doE s d = 0) (hp:za0 d.what ≠ 3):∃ y hb,MadeK s (doS s d) d.id y (za0 d.what == 2) hb:=by
 have hU:=zjt hG d
 obtain ⟨x,e,hx,hd⟩:=zn8 hG h hp
 rw [e] at hU ⊢
 have hd2:x.d = (za0 d.what == 2):=by
   rw [hd]
   cases hq:za0 d.what == 2 with
   | true=>rw [beq_iff_eq] at hq;simp [hq]
   | false=>rw [beq_eq_false_iff_ne] at hq;simp [hq]
 rw [← hx,← hd2]
 refine ⟨zai s x,hasT s.f x,zrg hU,rfl,rfl,rfl,rfl,zjz hU,rfl,?_,zpt hG,zmu hG.f,rfl⟩
 unfold zhg
 rw [zvt _ _ hU.rs,zjz hU]
 cases hh:hasT s.f x with
 | false=>rfl
 | true =>
   have hm:(getI (zas s x).store x.id).2 = true:=by rw [zjz hU,hh]
   rcases zbt (zas s x).store x.id with ⟨i,hi,hid,hg⟩ | ⟨_,hg⟩
   · rw [hg]
     rcases (zdh s x i).1 hi with ⟨_,hne⟩ | ⟨he,_⟩
     · exact absurd hid hne
     · rw [he]
   · rw [hg] at hm;cases hm
theorem ztn {r:Int} {f:Pr} (h:ze3 r f = true):Good (newS r f):=by
 unfold ze3 at h
 rw [Bool.and_eq_true,inB_iff] at h
 refine ⟨h.1,rfl,rfl,zkr,h.2,by show 0 + 0 ≤ 40;omega,by show (0:Int) ≤ 0 ∧ (0:Int) ≤ 1000;omega,by show (0:Int) ≤ 0 ∧ (0:Int) ≤ 1000000;omega,by show (0:Int) ≤ 0 ∧ (0:Int) ≤ 1000000;omega,fun i hi=>by simp [newS] at hi,fun i hi=>by simp [newS] at hi,fun i hi=>by simp [newS] at hi,?_⟩
 rw [beyS_iff]
 exact ⟨zdl (Int.le_refl _) fun _=>Int.le_refl _,fun f hf=>by simp [newS] at hf⟩
abbrev pUp:Pr:=.node 1 ⟨#[]⟩ 0 0 0 []
abbrev xUp:Itm:=itS ⟨#[97]⟩ ⟨#[]⟩ 1 0 0
theorem zol:Pr.mayB pUp = true:=by
 have h:Pr.bareB ⟨#[]⟩ 0 0 0 0 = true:=by
   have h1:feq 0 0 = true:=by decide
   have h2:(⟨#[]⟩:ByteArray).toList = []:=by rw [ByteArray.toList_eq]
   unfold Pr.bareB
   rw [h1,h2];rfl
 simp [Pr.mayB,Pr.fitsB,Pr.size,Pr.sizes,Pr.depth,Pr.depths,Pr.all,Pr.alls,Pr.partB,h]
theorem zv4:mayT xUp = true:=by decide
theorem up_new:newT 1 pUp = newS 1 pUp ∧ newE 1 pUp = 0:=by
 have h:ze3 1 pUp = true:=by unfold ze3;rw [zol];decide
 unfold newT newE
 rw [if_pos h,if_pos h];exact ⟨rfl,rfl⟩
theorem zov:Good (newS 1 pUp):=ztn (by unfold ze3;rw [zol];decide)
theorem zsl:(zad (newS 1 pUp) xUp.id).2 = false:=rfl
theorem up_cre:creE (newS 1 pUp) xUp = 0 ∧ creS (newS 1 pUp) xUp = zas (newS 1 pUp) xUp:=by
 have e:creE (newS 1 pUp) xUp = 0:=by
   unfold creE
   rw [if_pos zv4,if_neg (by rw [zsl];simp),if_neg (by simp [newS]),if_neg (by decide)]
 exact ⟨e,by unfold creS;rw [if_pos e]⟩
theorem zw8:hasT pUp xUp = true:=by decide
theorem zvy:zhg (zas (newS 1 pUp) xUp) = [zai (newS 1 pUp) xUp]:=by
 show (zay (preS (newS 1 pUp) xUp) (zai (newS 1 pUp) xUp)).filter _ = _
 unfold zay
 rw [show hasT (preS (newS 1 pUp) xUp).f (zai (newS 1 pUp) xUp) = true from zw8,if_pos rfl]
 rfl
theorem zvz:(zas (newS 1 pUp) xUp).k.star 0 = 1:=by decide
abbrev yUp:Itm:=⟨⟨#[97]⟩,1,1,1,⟨#[]⟩,1,0,0,false⟩
theorem zsj (w:World):Calls Tryz.prog 7 #[] w fun e w'=>e = .returned (.bool true) ∧ Below w.heap.size w w':=by
 have BEL:=y44h (Below.refl w.heap.size w)
 have hB1:StB (newS 1 pUp):=⟨by decide,by decide,by decide,by decide,by decide⟩
 have hG2:=zlx (x:=xUp) zov
 rw [up_cre.2] at hG2
 have hB2:StB (zas (newS 1 pUp) xUp):=⟨by decide,by have:=hG2.n;omega,by have:=hG2.n;omega,by decide,by decide⟩
 have CN:=fun w'=>y44h (show Calls Tryz.prog 13 #[.int .i64 1,prV pUp (.slice none 0 0)] w' (fun q w''=>∃ f5 s5 o5 k5,q = .returned (.tuple #[stV (newS 1 pUp) f5 s5 o5 k5,.nilIface]) ∧ StW w'' (newS 1 pUp) f5 s5 o5 k5 ∧ Below w'.heap.size w' w'') from by
   have h:=newC 1 pUp (.slice none 0 0) w' (zic (by decide)) (by decide)
   rw [up_new.1,up_new.2] at h
   exact h)
 have CC:=fun a b c e w' (h:StW w' (newS 1 pUp) a b c e)=>y44h (show Calls Tryz.prog 31 #[stV (newS 1 pUp) a b c e,.string ⟨#[97]⟩,.string ⟨#[]⟩,.int .i64 1,.complex .f64 0 0] w' (fun q w''=>∃ f6 s6 o6 k6,q = .returned (.tuple #[stV (zas (newS 1 pUp) xUp) f6 s6 o6 k6,.nilIface]) ∧ StW w'' (zas (newS 1 pUp) xUp) f6 s6 o6 k6 ∧ Below w'.heap.size w' w'') from by
   have h2:=zd4 (newS 1 pUp) a b c e ⟨#[97]⟩ ⟨#[]⟩ 1 0 0 w' h zov hB1 (by decide) (by decide)
   rw [up_cre.1,up_cre.2] at h2
   exact h2.mono fun _ _ ⟨f6,s6,o6,k6,he,hx,hb⟩=>⟨f6,s6,o6,k6,he,hx.lies h.lf h.ls h.lo h.lk hb,hb⟩)
 have CR:=fun a b c e w' (h:StW w' (zas (newS 1 pUp) xUp) a b c e)=>y44h (show Calls Tryz.prog 21 #[stV (zas (newS 1 pUp) xUp) a b c e] w' (fun q w''=>∃ v',q = .returned v' ∧ Row 8 ic w'' [yUp] v' ∧ Below w'.heap.size w' w'') from by
   have h2:=zey (zas (newS 1 pUp) xUp) a b c e w' h (by have:=hG2.n;omega)
   rw [zvy] at h2
   exact h2)
 have CM:=fun a b c e w' (h:StW w' (zas (newS 1 pUp) xUp) a b c e)=>y44h ((mayS_iff.2 hG2) ▸ zb8 (zas (newS 1 pUp) xUp) a b c e w' h hB2)
 have HS0:=y44h zvz
 clear hB1 hB2 hG2
 generalize zas (newS 1 pUp) xUp = S2 at *
 generalize newS 1 pUp = S1 at *
 go_enter Tryz.func7,Tryz.ntmps7
 go_wp2_with (first | (go_at_call 13;refine (CN _).out.mono ?_;rintro e w5 ⟨f5,s5,o5,k5,rfl,hst,hb⟩;have h1:f5.oneCell' = true:=za2 hst.lf;have h2:s5.oneCell' = true:=(by obtain ⟨_,_,_,_,e,_⟩:=hst.ls;rw [e];rfl);have h3:o5.oneCell' = true:=(by obtain ⟨_,_,_,_,e,_⟩:=hst.lo;rw [e];rfl);have h4:k5.oneCell' = true:=(by obtain ⟨_,_,e⟩:=hst.lk.val;rw [e];rfl);unfold Value.oneCell' at h1 h2 h3 h4;replace BEL:=y44h (BEL.out.trans (hb.mono BEL.out.size));have T:=y44h hst;have O1:=y44h (Own.new w5 stZ.toArray 43);clear hst hb) | (refine wpList_store_mid (by rfl) 43 _ _ (by rfl) w5.heap.size 0 (stA S1 f5 s5 o5 k5) (by rfl) (by rfl) (O1.out.there (by rfl)) (by kernel_rfl) (by simp [Value.oneCell',h1,h2,h3,h4]) ?_;have HK:=y44h (And.intro (O1.out.sets (stA S1 f5 s5 o5 k5).toList (by rfl)) (zab (B:=w5.heap.size) (b:=w5.heap.size) (Nat.le_refl _) (stA S1 f5 s5 o5 k5).toList 0 ((Below.refl _ _).alloc (Nat.le_refl _) (.cells stZ.toArray 43))));revert HK;generalize World.setCells _ _ _ _ = W9;intro HK;have hb:=HK.out.2;replace O1:=y44h HK.out.1;replace T:=y44h (T.out.later hb);replace BEL:=y44h (BEL.out.trans (hb.mono BEL.out.size));clear HK hb) | (refine wpList_load_mid (by rfl) 43 _ (by rfl) w5.heap.size 0 (by rfl) (stA S1 f5 s5 o5 k5).toList _ O1.out.range Tryz.underlying43 (by rfl) (by kernel_rfl) ?_) | (go_at_call 31;refine (CC _ _ _ _ _ T.out).out.mono ?_;rintro e w6 ⟨f6,s6,o6,k6,rfl,hst,hb⟩;have j1:f6.oneCell' = true:=za2 hst.lf;have j2:s6.oneCell' = true:=(by obtain ⟨_,_,_,_,e,_⟩:=hst.ls;rw [e];rfl);have j3:o6.oneCell' = true:=(by obtain ⟨_,_,_,_,e,_⟩:=hst.lo;rw [e];rfl);have j4:k6.oneCell' = true:=(by obtain ⟨_,_,e⟩:=hst.lk.val;rw [e];rfl);unfold Value.oneCell' at j1 j2 j3 j4;replace BEL:=y44h (BEL.out.trans (hb.mono BEL.out.size));have V:=y44h hst;have O3:=y44h (Own.new w6 stZ.toArray 43);clear hst hb) | (refine wpList_store_mid (by rfl) 43 _ _ (by rfl) w6.heap.size 0 (stA S2 f6 s6 o6 k6) (by rfl) (by rfl) (O3.out.there (by rfl)) (by kernel_rfl) (by simp [Value.oneCell',j1,j2,j3,j4]) ?_;have HK:=y44h (And.intro (O3.out.sets (stA S2 f6 s6 o6 k6).toList (by rfl)) (zab (B:=w6.heap.size) (b:=w6.heap.size) (Nat.le_refl _) (stA S2 f6 s6 o6 k6).toList 0 ((Below.refl _ _).alloc (Nat.le_refl _) (.cells stZ.toArray 43))));revert HK;generalize World.setCells _ _ _ _ = W10;intro HK;have hb:=HK.out.2;replace O3:=y44h HK.out.1;replace V:=y44h (V.out.later hb);replace BEL:=y44h (BEL.out.trans (hb.mono BEL.out.size));clear HK hb) | (refine wpList_load_mid (by rfl) 43 _ (by rfl) w6.heap.size 0 (by rfl) (stA S2 f6 s6 o6 k6).toList _ O3.out.range Tryz.underlying43 (by rfl) (by kernel_rfl) ?_) | (refine zbs (by rfl) 43 _ (by rfl) w6.heap.size 0 (by rfl) (stA S2 f6 s6 o6 k6).toList _ O3.out.range Tryz.underlying43 (by rfl) (by kernel_rfl) ?_) | (go_at_call 21;refine (CR _ _ _ _ _ V.out).out.mono ?_;rintro e w7 ⟨va,rfl,hr,hb⟩;obtain ⟨oa,ca,ba,ob,rfl,hr⟩:=hr;obtain ⟨rfl,hb0⟩:=hr.at0 (by simp);have c0:=hr.cell 0 _ rfl 0 _ rfl;have c1:=hr.cell 0 _ rfl 1 _ rfl;have c2:=hr.cell 0 _ rfl 2 _ rfl;have c3:=hr.cell 0 _ rfl 3 _ rfl;simp only [Nat.zero_mul,Nat.add_zero] at c0 c1 c2 c3;replace V:=y44h (V.out.later hb);replace O3:=y44h (O3.out.later hb);replace BEL:=y44h (BEL.out.trans (hb.mono BEL.out.size));clear hr hb;have C0:=y44h c0;have C1:=y44h c1;have C2:=y44h c2;have C3:=y44h c3;have Z0:=y44h hb0;clear c0 c1 c2 c3 hb0) | (go_at_call 11;refine (CM _ _ _ _ _ V.out).out.mono ?_;rintro e w8 ⟨rfl,hb⟩;replace O3:=y44h (O3.out.later hb);replace BEL:=y44h (BEL.out.trans (hb.mono BEL.out.size));have c0:=(hb.cell (p:=⟨ba,ob,none⟩) Z0.out).trans C0.out;have c1:=(hb.cell (p:=⟨ba,ob + 1,none⟩) Z0.out).trans C1.out;have c2:=(hb.cell (p:=⟨ba,ob + 2,none⟩) Z0.out).trans C2.out;have c3:=(hb.cell (p:=⟨ba,ob + 3,none⟩) Z0.out).trans C3.out;have l3:=O3.out.cell;have z3:=O3.out.lt;have zb:=Nat.lt_of_lt_of_le Z0.out hb.size;have hs:=HS0.out;clear hb) | fail)
 go_ret
 exact ⟨rfl,BEL.out⟩
end Go.Proofs.YthnllikalobmeaaGreat
