/- Joined: Up9, LKeepM, PlayM, Few. -/
import Derived.Test.YthnllikalobmeaaGreatK44
import Derived.Test.YthnllikalobmeaaGreatK39
import Derived.Test.YthnllikalobmeaaGreatK32
import Derived.Test.YthnllikalobmeaaGreatK18
namespace Go.Proofs.YthnllikalobmeaaGreat
set_option linter.unusedVariables false
set_option linter.unusedSimpArgs false
set_option maxRecDepth 100000
set_option maxHeartbeats 8000000
open Go.RowKit
theorem y46h {p:Prop} (h:p):Hid p:=Lib.hid h
abbrev yUp:Itm:=⟨⟨#[97]⟩,1,1,1,⟨#[]⟩,1,0,0,false⟩
theorem zu6 (w:World):Calls Tryz.prog 7 #[] w fun e w'=>e = .returned (.bool true) ∧ Below w.heap.size w w':=by
 have BEL:=y46h (Below.refl w.heap.size w)
 have hB1:StB (newS 1 pUp):=⟨by decide,by decide,by decide,by decide,by decide⟩
 have hG2:=znk (x:=xUp) zq3
 rw [up_cre.2] at hG2
 have hB2:StB (zay (newS 1 pUp) xUp):=⟨by decide,by have:=hG2.n;omega,by have:=hG2.n;omega,by decide,by decide⟩
 have CN:=fun w'=>y46h (show Calls Tryz.prog 13 #[.int .i64 1,prV pUp (.slice none 0 0)] w' (fun q w''=>∃ f5 s5 o5 k5,q = .returned (.tuple #[stV (newS 1 pUp) f5 s5 o5 k5,.nilIface]) ∧ StW w'' (newS 1 pUp) f5 s5 o5 k5 ∧ Below w'.heap.size w' w'') from by
   have h:=newC 1 pUp (.slice none 0 0) w' (zgl (by decide)) (by decide)
   rw [up_new.1,up_new.2] at h
   exact h)
 have CC:=fun a b c e w' (h:StW w' (newS 1 pUp) a b c e)=>y46h (show Calls Tryz.prog 31 #[stV (newS 1 pUp) a b c e,.string ⟨#[97]⟩,.string ⟨#[]⟩,.int .i64 1,.complex .f64 0 0] w' (fun q w''=>∃ f6 s6 o6 k6,q = .returned (.tuple #[stV (zay (newS 1 pUp) xUp) f6 s6 o6 k6,.nilIface]) ∧ StW w'' (zay (newS 1 pUp) xUp) f6 s6 o6 k6 ∧ Below w'.heap.size w' w'') from by
   have h2:=zei (newS 1 pUp) a b c e ⟨#[97]⟩ ⟨#[]⟩ 1 0 0 w' h zq3 hB1 (by decide) (by decide)
   rw [up_cre.1,up_cre.2] at h2
   exact h2.mono fun _ _ ⟨f6,s6,o6,k6,he,hx,hb⟩=>⟨f6,s6,o6,k6,he,hx.lies h.lf h.ls h.lo h.lk hb,hb⟩)
 have CR:=fun a b c e w' (h:StW w' (zay (newS 1 pUp) xUp) a b c e)=>y46h (show Calls Tryz.prog 21 #[stV (zay (newS 1 pUp) xUp) a b c e] w' (fun q w''=>∃ v',q = .returned v' ∧ Row 8 ic w'' [yUp] v' ∧ Below w'.heap.size w' w'') from by
   have h2:=zfj (zay (newS 1 pUp) xUp) a b c e w' h (by have:=hG2.n;omega)
   rw [zy6] at h2
   exact h2)
 have CM:=fun a b c e w' (h:StW w' (zay (newS 1 pUp) xUp) a b c e)=>y46h ((mayS_iff.2 hG2) ▸ zk3 (zay (newS 1 pUp) xUp) a b c e w' h hB2)
 have HS0:=y46h zy7
 clear hB1 hB2 hG2
 generalize zay (newS 1 pUp) xUp = S2 at *
 generalize newS 1 pUp = S1 at *
 go_enter Tryz.func7,Tryz.ntmps7
 go_wp2_with (first | (go_at_call 13;refine (CN _).out.mono ?_;rintro e w5 ⟨f5,s5,o5,k5,rfl,hst,hb⟩;have h1:f5.oneCell' = true:=zar hst.lf;have h2:s5.oneCell' = true:=(by obtain ⟨_,_,_,_,e,_⟩:=hst.ls;rw [e];rfl);have h3:o5.oneCell' = true:=(by obtain ⟨_,_,_,_,e,_⟩:=hst.lo;rw [e];rfl);have h4:k5.oneCell' = true:=(by obtain ⟨_,_,e⟩:=hst.lk.val;rw [e];rfl);unfold Value.oneCell' at h1 h2 h3 h4;replace BEL:=y46h (BEL.out.trans (hb.mono BEL.out.size));have T:=y46h hst;have O1:=y46h (Own.new w5 stZ.toArray 43);clear hst hb) | (refine wpList_store_mid (by rfl) 43 _ _ (by rfl) w5.heap.size 0 (stA S1 f5 s5 o5 k5) (by rfl) (by rfl) (O1.out.there (by rfl)) (by kernel_rfl) (by simp [Value.oneCell',h1,h2,h3,h4]) ?_;have HK:=y46h (And.intro (O1.out.sets (stA S1 f5 s5 o5 k5).toList (by rfl)) (zab (B:=w5.heap.size) (b:=w5.heap.size) (Nat.le_refl _) (stA S1 f5 s5 o5 k5).toList 0 ((Below.refl _ _).alloc (Nat.le_refl _) (.cells stZ.toArray 43))));revert HK;generalize World.setCells _ _ _ _ = W9;intro HK;have hb:=HK.out.2;replace O1:=y46h HK.out.1;replace T:=y46h (T.out.later hb);replace BEL:=y46h (BEL.out.trans (hb.mono BEL.out.size));clear HK hb) | (refine wpList_load_mid (by rfl) 43 _ (by rfl) w5.heap.size 0 (by rfl) (stA S1 f5 s5 o5 k5).toList _ O1.out.range Tryz.underlying43 (by rfl) (by kernel_rfl) ?_) | (go_at_call 31;refine (CC _ _ _ _ _ T.out).out.mono ?_;rintro e w6 ⟨f6,s6,o6,k6,rfl,hst,hb⟩;have j1:f6.oneCell' = true:=zar hst.lf;have j2:s6.oneCell' = true:=(by obtain ⟨_,_,_,_,e,_⟩:=hst.ls;rw [e];rfl);have j3:o6.oneCell' = true:=(by obtain ⟨_,_,_,_,e,_⟩:=hst.lo;rw [e];rfl);have j4:k6.oneCell' = true:=(by obtain ⟨_,_,e⟩:=hst.lk.val;rw [e];rfl);unfold Value.oneCell' at j1 j2 j3 j4;replace BEL:=y46h (BEL.out.trans (hb.mono BEL.out.size));have V:=y46h hst;have O3:=y46h (Own.new w6 stZ.toArray 43);clear hst hb) | (refine wpList_store_mid (by rfl) 43 _ _ (by rfl) w6.heap.size 0 (stA S2 f6 s6 o6 k6) (by rfl) (by rfl) (O3.out.there (by rfl)) (by kernel_rfl) (by simp [Value.oneCell',j1,j2,j3,j4]) ?_;have HK:=y46h (And.intro (O3.out.sets (stA S2 f6 s6 o6 k6).toList (by rfl)) (zab (B:=w6.heap.size) (b:=w6.heap.size) (Nat.le_refl _) (stA S2 f6 s6 o6 k6).toList 0 ((Below.refl _ _).alloc (Nat.le_refl _) (.cells stZ.toArray 43))));revert HK;generalize World.setCells _ _ _ _ = W10;intro HK;have hb:=HK.out.2;replace O3:=y46h HK.out.1;replace V:=y46h (V.out.later hb);replace BEL:=y46h (BEL.out.trans (hb.mono BEL.out.size));clear HK hb) | (refine wpList_load_mid (by rfl) 43 _ (by rfl) w6.heap.size 0 (by rfl) (stA S2 f6 s6 o6 k6).toList _ O3.out.range Tryz.underlying43 (by rfl) (by kernel_rfl) ?_) | (refine zcd (by rfl) 43 _ (by rfl) w6.heap.size 0 (by rfl) (stA S2 f6 s6 o6 k6).toList _ O3.out.range Tryz.underlying43 (by rfl) (by kernel_rfl) ?_) | (go_at_call 21;refine (CR _ _ _ _ _ V.out).out.mono ?_;rintro e w7 ⟨va,rfl,hr,hb⟩;obtain ⟨oa,ca,ba,ob,rfl,hr⟩:=hr;obtain ⟨rfl,hb0⟩:=hr.at0 (by simp);have c0:=hr.cell 0 _ rfl 0 _ rfl;have c1:=hr.cell 0 _ rfl 1 _ rfl;have c2:=hr.cell 0 _ rfl 2 _ rfl;have c3:=hr.cell 0 _ rfl 3 _ rfl;simp only [Nat.zero_mul,Nat.add_zero] at c0 c1 c2 c3;replace V:=y46h (V.out.later hb);replace O3:=y46h (O3.out.later hb);replace BEL:=y46h (BEL.out.trans (hb.mono BEL.out.size));clear hr hb;have C0:=y46h c0;have C1:=y46h c1;have C2:=y46h c2;have C3:=y46h c3;have Z0:=y46h hb0;clear c0 c1 c2 c3 hb0) | (go_at_call 11;refine (CM _ _ _ _ _ V.out).out.mono ?_;rintro e w8 ⟨rfl,hb⟩;replace O3:=y46h (O3.out.later hb);replace BEL:=y46h (BEL.out.trans (hb.mono BEL.out.size));have c0:=(hb.cell (p:=⟨ba,ob,none⟩) Z0.out).trans C0.out;have c1:=(hb.cell (p:=⟨ba,ob + 1,none⟩) Z0.out).trans C1.out;have c2:=(hb.cell (p:=⟨ba,ob + 2,none⟩) Z0.out).trans C2.out;have c3:=(hb.cell (p:=⟨ba,ob + 3,none⟩) Z0.out).trans C3.out;have l3:=O3.out.cell;have z3:=O3.out.lt;have zb:=Nat.lt_of_lt_of_le Z0.out hb.size;have hs:=HS0.out;clear hb) | fail)
 go_ret
 exact ⟨rfl,BEL.out⟩
theorem ztd {s:St} {d:De} (hG:Good s) (h:doE s d = 0):(zbn d.what = 3 ∧ doS s d = filF s d.f) ∨ (zbn d.what ≠ 3 ∧ ∃ x,doS s d = zay s x ∧ x.id = d.id ∧ x.d = decide (zbn d.what = 2)):=by
 by_cases hp:zbn d.what = 3
 · exact .inl ⟨hp,zz0 h hp⟩
 · exact .inr ⟨hp,zyh hG h hp⟩
theorem zyg {s:St} {d:De} (hG:Good s) (h:doE s d = 0):((zaf (doS s d).k.l).length ≤ (zaf s.k.l).length + 1 ∨ (zaf (doS s d).k.l).length ≤ 40) ∧ ((doS s d).k.l.length ≤ (zaf s.k.l).length + 1 ∨ (doS s d).k.l.length ≤ 40):=by
 rcases ztd hG h with ⟨_,e⟩ | ⟨_,x,e,_⟩
 · rw [e,zqf hG]
   have h1:=zd7 ⟨zad,(zas behT s.store s.out).flatMap za1⟩
   have h2:=(zfv (zas behT s.store s.out)).1
   have h3:(zas behT s.store s.out).length ≤ 40:=Nat.le_trans zid hG.n
   exact ⟨.inr (Nat.le_trans h1.1 (Nat.le_trans h2 h3)),.inr (Nat.le_trans h1.2 (Nat.le_trans h2 h3))⟩
 · rw [e]
   have h1:=zd7 (ownK s.k x.id s.r (s.count + 1))
   have h2:(zaf (ownK s.k x.id s.r (s.count + 1)).l).length ≤ (zaf s.k.l).length + 1:=by
     unfold ownK
     split
     · rw [zch];exact Nat.le_refl _
     · exact Nat.le_succ _
   exact ⟨.inl (Nat.le_trans h1.1 h2),.inl (Nat.le_trans h1.2 h2)⟩
structure Agr (b c:Nat) (w W:World):Prop where
 os:W.os = w.os
 tape:W.tape = w.tape
 output:W.output = w.output
 size:w.heap.size ≤ W.heap.size
 block:∀ k,k < w.heap.size → k ≠ b → k ≠ c → W.heap[k]? = w.heap[k]?
theorem Agr.refl (b c:Nat) (w:World):Agr b c w w:=⟨rfl,rfl,rfl,Nat.le_refl _,fun _ _ _ _=>rfl⟩
theorem Agr.trans {b c:Nat} {w x W:World} (h:Agr b c w x) (k:Agr b c x W):Agr b c w W :=
 ⟨k.os.trans h.os,k.tape.trans h.tape,k.output.trans h.output,Nat.le_trans h.size k.size,fun j hj h1 h2=>(k.block j (Nat.lt_of_lt_of_le hj h.size) h1 h2).trans (h.block j hj h1 h2)⟩
theorem zhh {b c:Nat} {w x:World} (h:Below w.heap.size w x):Agr b c w x:=⟨h.os,h.tape,h.output,h.size,fun j hj _ _=>h.block j hj⟩
theorem zia {b c j:Nat} (hj:j = b ∨ j = c) {a:World} (vs:List Value):∀ {w:World} (o:Nat),Agr b c a w → Agr b c a (w.setCells j o vs):=by
 induction vs with
 | nil=>intro w o h;exact h
 | cons v vs ih =>
   intro w o h
   refine ih (o + 1) ⟨h.os,h.tape,h.output,by simpa [World.setCell] using h.size,fun k hk h1 h2=>?_⟩
   rw [Below.heap_setCell _ _ _ _ (by show k ≠ j;rcases hj with e | e <;> (rw [e];assumption))]
   exact h.block k hk h1 h2
def Firm (b c:Nat) (w:World) (s:St) (fv sv ov kv:Value):Prop:=∀ W,Agr b c w W → StW W s fv sv ov kv
theorem Firm.st {b c:Nat} {w:World} {s:St} {fv sv ov kv:Value} (h:Firm b c w s fv sv ov kv):StW w s fv sv ov kv:=h w (Agr.refl b c w)
theorem Firm.agr {b c:Nat} {w x:World} {s:St} {fv sv ov kv:Value} (h:Firm b c w s fv sv ov kv) (k:Agr b c w x):Firm b c x s fv sv ov kv:=fun W hW=>h W (k.trans hW)
theorem Firm.later {b c:Nat} {w x:World} {s:St} {fv sv ov kv:Value} (h:Firm b c w s fv sv ov kv) (k:Below w.heap.size w x):Firm b c x s fv sv ov kv:=h.agr (zhh k)
theorem zvs {b c:Nat} {w x:World} {s:St} {fv sv ov kv:Value} (h:StW w s fv sv ov kv) (hb:w.heap.size ≤ b) (hc:w.heap.size ≤ c) (k:Below w.heap.size w x):Firm b c x s fv sv ov kv:=fun W hW =>
 h.later ⟨hW.os.trans k.os,hW.tape.trans k.tape,hW.output.trans k.output,Nat.le_trans k.size hW.size,fun j hj=>(hW.block j (Nat.lt_of_lt_of_le hj k.size) (by omega) (by omega)).trans (k.block j hj)⟩
theorem zqr {b c B:Nat} {w W:World} {p:Pr} {v:Value} (h:LPF w B p v) (hB:∀ j,B ≤ j → j < w.heap.size → j ≠ b ∧ j ≠ c) (k:Agr b c w W):LP W p v :=
 h.mono (fun j o hS=>World.cell?_of_block (k.block j hS.2 (hB j hS.1 hS.2).1 (hB j hS.1 hS.2).2)) fun _ hS=>Nat.lt_of_lt_of_le hS.2 k.size
theorem zoz {b c B:Nat} {w W:World} {l:List Itm} {v:Value} (h:RowF w B l v) (hb:b < B) (hc:c < B) (k:Agr b c w W):Row 8 ic W l v:=by
 obtain ⟨oa,cap,b1,o,e,h,h2⟩:=h
 refine ⟨oa,cap,b1,o,e,⟨h.len,h.max,fun h0=>⟨(h.at0 h0).1,Nat.lt_of_lt_of_le (h.at0 h0).2 k.size⟩,fun i x hi j u hu=>?_,h.ok⟩⟩
 have h0:0 < l.length:=by have:=zbq hi;omega
 have h3:=h2 h0
 exact (World.cell?_of_block (k.block b1 (h.at0 h0).2 (by omega) (by omega))).trans (h.cell i x hi j u hu)
theorem Firm.told {b c B:Nat} {x w':World} {s U:St} {fv sv ov kv fv' sv' ov' kv':Value} (h:Firm b c x s fv sv ov kv) (hn:StN w' B s.f fv s.store sv s.out ov s.k.l kv U fv' sv' ov' kv') (hx:Agr b c x w') (hb:b < B) (hc:c < B):Firm b c w' U fv' sv' ov' kv':=fun W hW=>by
 have h0:=h W (hx.trans hW)
 obtain ⟨h1,h2,h3,h4⟩:=hn
 refine ⟨?_,?_,?_,?_⟩
 · rcases h1 with ⟨e,rfl⟩ | h1
   · rw [e];exact h0.lf
   · exact zqr h1 (fun j h5 _=>⟨by omega,by omega⟩) hW
 · rcases h2 with ⟨e,rfl⟩ | h2
   · rw [e];exact h0.ls
   · exact zoz h2 hb hc hW
 · rcases h3 with ⟨e,rfl⟩ | h3
   · rw [e];exact h0.lo
   · exact zoz h3 hb hc hW
 · rcases h4 with ⟨e,rfl⟩ | h4
   · rw [e];exact h0.lk
   · exact h4 W (fun j h5 h6=>hW.block j h6 (by omega) (by omega)) hW.size
theorem zvr {b c B:Nat} {w:World} {r:Int} {f:Pr} {v:Value} (h:LPF w B f v) (hB:∀ j,B ≤ j → j < w.heap.size → j ≠ b ∧ j ≠ c):Firm b c w (newS r f) v (.slice none 0 0) (.slice none 0 0) (.slice none 0 0):=fun W hW =>
 ⟨zqr h hB hW,zgs W,zgs W,zqi W⟩
def zc8 (r:Int) (f:Pr) (l:List (De × Value)) (k:Nat):St:=(l.take k).foldl (fun s x=>doS s x.1) (newS r f)
theorem zl4 {r:Int} {f:Pr} {l:List (De × Value)} {k:Nat} {x:De × Value} (h:l[k]? = some x):zc8 r f l (k + 1) = doS (zc8 r f l k) x.1:=by
 unfold zc8
 rw [List.take_add_one,h,List.foldl_append];rfl
theorem zuk {r:Int} {f:Pr} (h:zcu r f = true) (l:List (De × Value)):∀ k,Good (zc8 r f l k) ∧ (zaf (zc8 r f l k).k.l).length ≤ 40 + k ∧ (zc8 r f l k).k.l.length ≤ 40 + k:=by
 intro k
 induction k with
 | zero=>exact ⟨zom h,by show (zaf ([]:List Fr)).length ≤ 40;simp [zaf],by show ([]:List Fr).length ≤ 40;simp⟩
 | succ k ih =>
   obtain ⟨h1,h2,h3⟩:=ih
   cases hx:l[k]? with
   | none =>
     have e:zc8 r f l (k + 1) = zc8 r f l k:=by
       unfold zc8
       rw [List.take_add_one,hx];simp
     rw [e]
     exact ⟨h1,by omega,by omega⟩
   | some x =>
     rw [zl4 hx]
     refine ⟨zqd h1 x.1,?_⟩
     by_cases hE:doE (zc8 r f l k) x.1 = 0
     · obtain ⟨h4,h5⟩:=zyg h1 hE
       omega
     · rw [zzz hE]
       omega
theorem zt6 {p:Pr} (h:p.mayB = true):p.size ≤ 30:=by
 unfold Pr.mayB Pr.fitsB at h
 simp only [Bool.and_eq_true,decide_eq_true_eq] at h
 omega
theorem zro {s:St} {n:Nat} (h:Good s) (h1:(zaf s.k.l).length ≤ n) (h2:s.k.l.length ≤ n) (hn:n ≤ 1000):StB s :=
 ⟨Nat.le_trans (zt6 h.f) (by decide),by have:=h.n;omega,by have:=h.n;omega,by omega,by omega⟩
def fewB (l:List (De × Value)):Bool:=decide (l.length ≤ 100) && l.all fun x=>decide (x.1.f.size ≤ 60)
def fewI (l:List (De × Value)):Int:=if fewB l = true then 1 else 0
def zzi (l:List (De × Value)) (len:Nat) (w:World) (iv:Value) (wr:World):Prop :=
 ∃ k:Nat,k ≤ len ∧ iv = .int .i64 k ∧ Hid (∀ j x,j < k → l[j]? = some x → x.1.f.size ≤ 60) ∧ Hid (Below w.heap.size w wr)
theorem zth (l:List (De × Value)) (v:Value) (w:World) (h:DsW w l v) :
   Calls Tryz.prog 23 #[v,.int .i64 100] w fun e w'=>e = .returned (.int .i64 (fewI l)) ∧ Below w.heap.size w w':=by
 obtain ⟨oa,cap,b0,o,rfl,hr⟩:=h
 have HR:=y46h hr
 have hcap:=hr.len
 have hmax:=hr.max
 unfold maxLen at hmax
 clear hr
 have HE:=y46h (show fewI l = if (decide (l.length ≤ 100) && l.all fun x=>decide (x.1.f.size ≤ 60)) = true then 1 else 0 from rfl)
 generalize fewI l = res at *
 generalize hn:l.length = len at *
 have HN:=y46h hn
 clear hn
 by_cases h100:100 < len
 · have E:=y46h (show res = 0 by rw [HE.out,if_neg (by simp;omega)])
   go_enter Tryz.func23,Tryz.ntmps23
   go_wp2_with fail
   go_ret
   exact ⟨zb1 E.out.symm,Below.refl _ _⟩
 go_enter Tryz.func23,Tryz.ntmps23
 go_wp2_with fail
 go_loopw [5] (fun iv wr=>zzi l len w iv wr) (fun iv _=>len - (intOf iv).toNat)
 case atStart=>exact ⟨0,Nat.zero_le _,rfl,y46h (fun j x hj=>absurd hj (by omega)),y46h (Below.refl _ _)⟩
 case round =>
   obtain ⟨k,hk,rfl,HA,BL⟩:=hrel
   by_cases hlt:k < len
   · obtain ⟨x,hx⟩:∃ x,l[k]? = some x:=⟨_,List.getElem?_eq_getElem (by rw [HN.out];exact hlt)⟩
     obtain ⟨rfl,hb0⟩:=HR.out.at0 (by rw [HN.out];omega)
     have C:=y46h (fun j u hu=>(BL.out.cell (p:=⟨b0,o + k * 12 + j,none⟩) hb0).trans (HR.out.cell k x hx j u hu))
     have CM:=fun w' h=>y46h (zis x.1.f x.2 w' h)
     have HLT:=y46h (HR.out.ok x (List.mem_of_getElem? hx)).lf
     have q0:(0:Int) ≤ (k:Int):=by omega
     have q1:(k:Int) < (len:Int):=by omega
     have q2:(k:Int) + 1 ≤ 9223372036854775807:=by omega
     have HF:=y46h hx
     clear hx
     by_cases hs:x.1.f.size ≤ 60
     · have HA2:=y46h (show ∀ j y,j < k + 1 → l[j]? = some y → y.1.f.size ≤ 60 from fun j y hj hy=>by
         by_cases e:j = k
         · subst e;rw [HF.out] at hy;cases hy;exact hs
         · exact HA.out j y (by omega) hy)
       rw [if_pos hs] at CM
       clear hs
       go_wp2_with (first | (refine wpList_load_mid (by rfl) 25 _ (by rfl) b0 (o + k * 12 + 6) (by rfl) [.int .i64 x.1.f.op,.string x.1.f.text,.int .i64 x.1.f.n,.float .f64 x.1.f.x,.float .f64 x.1.f.y,x.2] _ (fun j v hv=>by have:=C.out (6 + j) v (by rw [← List.getElem?_drop];exact hv);rw [Nat.add_assoc];exact this) Tryz.underlying25 (by rfl) (by kernel_rfl) ?_) | (go_at_call 9;refine (CM _ (HLT.out.later BL.out (Nat.le_refl _))).out.mono ?_;rintro e w2 ⟨rfl,hb⟩;replace BL:=y46h (BL.out.trans (hb.mono BL.out.size));clear hb) | fail)
       go_roundw
       case rel=>exact ⟨k + 1,by omega,by go_num,HA2,BL⟩
       case measure=>simp [intOf];omega
     · have E:=y46h (show res = 0 by
         rw [HE.out,if_neg]
         rw [Bool.and_eq_true,List.all_eq_true]
         rintro ⟨_,h⟩
         have:=h x (List.mem_of_getElem? HF.out)
         rw [decide_eq_true_eq] at this
         exact hs this)
       rw [if_neg hs] at CM
       clear hs
       go_wp2_with (first | (refine wpList_load_mid (by rfl) 25 _ (by rfl) b0 (o + k * 12 + 6) (by rfl) [.int .i64 x.1.f.op,.string x.1.f.text,.int .i64 x.1.f.n,.float .f64 x.1.f.x,.float .f64 x.1.f.y,x.2] _ (fun j v hv=>by have:=C.out (6 + j) v (by rw [← List.getElem?_drop];exact hv);rw [Nat.add_assoc];exact this) Tryz.underlying25 (by rfl) (by kernel_rfl) ?_) | (go_at_call 9;refine (CM _ (HLT.out.later BL.out (Nat.le_refl _))).out.mono ?_;rintro e w2 ⟨rfl,hb⟩;replace BL:=y46h (BL.out.trans (hb.mono BL.out.size));clear hb) | fail)
       go_ret
       exact ⟨zb1 E.out.symm,BL.out⟩
   · have e:len = k:=by omega
     subst e
     have E:=y46h (show res = 1 by
       rw [HE.out,if_pos]
       rw [Bool.and_eq_true,List.all_eq_true]
       refine ⟨by simp;omega,fun x hx=>?_⟩
       obtain ⟨j,hj,e⟩:=List.mem_iff_getElem.1 hx
       rw [decide_eq_true_eq]
       exact HA.out j x (by have:=HN.out;omega) (by rw [List.getElem?_eq_getElem hj,e]))
     go_wp2_with fail
     go_ret
     exact ⟨zb1 E.out.symm,BL.out⟩
end Go.Proofs.YthnllikalobmeaaGreat
