/- Joined: RefSt11. -/
import Derived.Test.YtodfhabkdaiopaaGreatJ33
import Derived.Test.YtodfhabkdaiopaaGreatJ32
import Derived.Test.YtodfhabkdaiopaaGreatJ26
import Derived.Test.YtodfhabkdaiopaaGreatJ27
import Derived.Deep.RegionLaw
namespace Go.Proofs.YtodfhabkdaiopaaGreat
set_option linter.unusedVariables false
set_option linter.unusedSimpArgs false
set_option maxRecDepth 100000
set_option maxHeartbeats 8000000
open Go.RowKit
theorem y35h {p:Prop} (h:p):Go.RowKit.Hid p:=Lib.hid h
theorem zch {P:Program} {o:Oper} {a:Act} {w:World} {K:Act→Prop} (ty:TypeId) (x:Operand) (ho:o.op=.load ty x) (b off:Nat) (hx:a.eval x=.pointer (some ⟨b,off,none⟩)) (cs:List Value) (d:TypeDesc) (hc:w.rangeAt b off cs)
   (hu:P.underlying ty=some d) (hd:d.isRow=true) (hi:(P.info? ty).map (·.size)=some cs.length) (h:K (a.put o.dst (.agg cs.toArray))):o.still P a w K:=by
 unfold Oper.still execOp
 simp only [ho,hx,Instr.loadAt,Instr.sureAddr,Sem.run_bind,Sem.run_pure,Result.andThen_ok,run_loadVar_mid w b off ty cs d hc hu hd hi]
 exact ⟨rfl,h⟩
theorem zti {s:St} {f:Pr} (h:Pr.mayB f=false ∨ (s.f.op=1∧f.op ≠ 1)):filE s f=1∧filS s f=s:=by
 have e:filE s f=1:=by
   unfold filE
   rw [if_neg]
   rintro ⟨h1,h2⟩
   rcases h with h | h
   · rw [h] at h1;cases h1
   · exact h2 h
 exact ⟨e,by unfold filS;rw [e,if_neg (by decide)]⟩
theorem ztj {s:St} {f:Pr} (h:Pr.mayB f=true) (h2:¬(s.f.op=1∧f.op ≠ 1)) (h3:s.epoch=1000000):filE s f=5∧filS s f=s:=by
 have e:filE s f=5:=by unfold filE;rw [if_pos ⟨h,h2⟩,if_pos h3]
 exact ⟨e,by unfold filS;rw [e,if_neg (by decide)]⟩
theorem zn3 {s:St} {f:Pr} (h:Pr.mayB f=true) (h2:¬(s.f.op=1∧f.op ≠ 1)) (h3:s.epoch ≠ 1000000):filE s f=0∧filS s f=filF s f:=by
 have e:filE s f=0:=by unfold filE;rw [if_pos ⟨h,h2⟩,if_neg h3]
 exact ⟨e,by unfold filS;rw [e,if_pos rfl]⟩
theorem zn5 (v:Nat→Int) (id:ByteArray):∀ o:List Fr,(zaf (putF v id o)).length=(zaf o).length + 1
 | []=>rfl
 | g :: o=>by
   rw [putF]
   split
   · simp [zaf];omega
   · have:=zn5 v id o
     simp only [zaf,List.flatMap_cons,List.length_append] at *
     omega
theorem zvw (F:ByteArray→Nat→Int) (ids:List ByteArray):∀ o:List Fr,(zaf (ids.foldl (zaw F) o)).length≤(zaf o).length + ids.length:=by
 induction ids with
 | nil=>intro o;simp
 | cons a l ih =>
   intro o
   rw [List.foldl_cons]
   have:=ih (zaw F o a)
   have h2:(zaf (zaw F o a)).length≤(zaf o).length + 1:=by
     unfold zaw
     split
     · omega
     · rw [zn5];omega
   simp only [List.length_cons];omega
theorem zda (k:Kn):(zaf (zah k).l).length≤(zaf k.l).length∧(zah k).l.length≤(zaf k.l).length:=by
 have h1:=zvw (beyB k) (zbf k) []
 have h2:=zlt (beyB k) (zbf k) []
 have h3:(zbf k).length≤(zaf k.l).length:=ziu _
 have e:(zah k).l=(zbf k).foldl (zaw (beyB k)) []:=rfl
 rw [e]
 have h0:(zaf ([]:List Fr)).length=0:=rfl
 have h4:([]:List Fr).length=0:=rfl
 omega
theorem zbk (k:Kn) (id:ByteArray) (r c:Int):(zaf (zal k id r c).l).length=(zaf k.l).length + 1:=by
 simp [zal,zaf]
def filN (s:St) (f:Pr) (A:List Itm) (k:Nat):St:=(A.take k).foldl filP (filB s f)
theorem zmc {s:St} {f:Pr} {A:List Itm} {k:Nat} {x:Itm} (h:A[k]?=some x):filN s f A (k + 1)=filP (filN s f A k) x:=by
 unfold filN
 rw [zfg h,List.foldl_append];rfl
theorem ztk (s:St) (f:Pr) (A:List Itm) (k:Nat):(filN s f A k).f=f:=by
 unfold filN
 generalize A.take k=B
 have:∀ t:St,t.f=f→(B.foldl filP t).f=f:=by
   induction B with
   | nil=>intro t h;exact h
   | cons x B ih=>intro t h;exact ih (filP t x) h
 exact this _ rfl
theorem zro (s:St) (f:Pr) (A:List Itm):∀ k,k≤A.length→((zaf (filN s f A k).k.l).length≤k∧(filN s f A k).k.l.length≤k)∧(filN s f A k).store.length≤k∧(filN s f A k).out.length≤k:=by
 intro k
 induction k with
 | zero=>intro _;exact ⟨⟨Nat.le_refl _,Nat.le_refl _⟩,Nat.le_refl _,Nat.le_refl _⟩
 | succ k ih =>
   intro hk
   obtain ⟨⟨h1,h2⟩,h3,h4⟩:=ih (by omega)
   rw [zmc (List.getElem?_eq_getElem (show k < A.length by omega))]
   generalize A[k]=x at *
   generalize filN s f A k=u at *
   have p:=zda (zal u.k x.id x.r x.c)
   rw [zbk] at p
   refine ⟨⟨Nat.le_trans p.1 (by omega),Nat.le_trans p.2 (by omega)⟩,?_,?_⟩
   · show (zam (filW u x) x).length≤_
     unfold zam
     have f1:=zdn u.store x.id
     have p1:=zc1 (u.store.filter (neB x.id)) x
     split
     · exact Nat.le_trans p1 (by omega)
     · exact Nat.le_trans f1 (by omega)
   · show (laidOut (filW u x) x true).length≤_
     unfold laidOut
     have f1:=zdn u.out x.id
     have p1:=zc1 (u.out.filter (neB x.id)) x
     split
     · exact Nat.le_trans f1 (by omega)
     · rw [if_pos rfl];exact Nat.le_trans p1 (by omega)
theorem zxf (u:St) (x:Itm) (fv sv ov kv v:Value):(((((((((stA u fv sv ov kv).setIfInBounds 8 (.int .i64 (u.k.star 0))).setIfInBounds 9 (.int .i64 (u.k.star 1))).setIfInBounds 10 (.int .i64 (u.k.star 2))).setIfInBounds 11 (.int .i64 (u.k.star 3))).setIfInBounds 12 (.int .i64 (u.k.star 4))).setIfInBounds 13 (.int .i64 (u.k.star 5))).setIfInBounds 14 (.int .i64 (u.k.star 6))).setIfInBounds 15 (.int .i64 (u.k.star 7))).setIfInBounds 16 v=stA (filW u x) fv sv ov v:=by
 simp [filW,zah,zal]
theorem zwn {X:World} {b:Nat} {u:St} {fv sv ov kv:Value} (h:Own X b (stA u fv sv ov kv) 40) (x:Itm) (v:Value):Own (zhe X b (.int .i64 (u.k.star 0)) (.int .i64 (u.k.star 1)) (.int .i64 (u.k.star 2)) (.int .i64 (u.k.star 3)) (.int .i64 (u.k.star 4)) (.int .i64 (u.k.star 5)) (.int .i64 (u.k.star 6)) (.int .i64 (u.k.star 7)) v) b (stA (filW u x) fv sv ov v) 40:=by
 have h2:=((((((((h.set 8 (.int .i64 (u.k.star 0))).set 9 (.int .i64 (u.k.star 1))).set 10 (.int .i64 (u.k.star 2))).set 11 (.int .i64 (u.k.star 3))).set 12 (.int .i64 (u.k.star 4))).set 13 (.int .i64 (u.k.star 5))).set 14 (.int .i64 (u.k.star 6))).set 15 (.int .i64 (u.k.star 7))).set 16 v
 rw [zxf] at h2
 exact h2
theorem zuv {X:World} {B b:Nat} {l:List Itm} {v:Value} (h:RowF X B l v) (hb:b < B) (c0 c1 c2 c3 c4 c5 c6 c7 c8:Value):RowF (zhe X b c0 c1 c2 c3 c4 c5 c6 c7 c8) B l v :=
 ((((((((h.set hb _).set hb _).set hb _).set hb _).set hb _).set hb _).set hb _).set hb _).set hb _
theorem zo8 (w:World) (B:Nat):RowF w B [] (.slice none 0 0):=⟨none,0,B,0,rfl,⟨Nat.le_refl _,by decide,fun h=>absurd h (by simp),fun k i hk=>by simp at hk,fun i hi=>by simp at hi⟩,fun h=>absurd h (by simp)⟩
theorem zf8 (w:World) (B:Nat):FrFresh w B [] (.slice none 0 0):=fun w' _ _=>⟨fun _=>.nilFunc,none,0,0,0,rfl,Nat.le_refl _,by decide,fun h=>absurd h (by simp),fun k f hk=>by simp at hk,fun k f hk=>by simp at hk⟩
theorem zhy {B:Nat} {w w':World} (h:Below B w.drew w'):Below B w w':=⟨h.os,h.tape,h.output,h.size,h.block⟩
structure FlW (w1:World) (b:Nat) (u:St) (gv sv ov kv:Value) (wr:World):Prop where
 own:Own wr b (stA u gv sv ov kv) 40
 rs:RowF wr (b + 1) u.store sv
 ro:RowF wr (b + 1) u.out ov
 rk:FrFresh wr (b + 1) u.k.l kv
 bel:Below b w1 wr
def z07 (s:St) (f:Pr) (A:List Itm) (w1:World) (b:Nat) (gv:Value) (iv:Value) (wr:World):Prop :=
 ∃ (k:Nat),k≤A.length∧iv=.int .i64 k∧Hid (∃ sv ov kv,FlW w1 b (filN s f A k) gv sv ov kv wr)
theorem zla (s:St) (fv sv ov kv:Value) (f:Pr) (gv:Value) (w:World) (hS:StW w s fv sv ov kv) (hL:LP w f gv) (hf:f.size≤1000) (h1:s.store.length≤200) (h2:s.out.length≤200) (he:0≤s.epoch∧s.epoch≤1000000) :
   Calls Tryz.prog 81 #[stV s fv sv ov kv,prV f gv] w fun e w' =>
     ∃ fv' sv' ov' kv',e=.returned (.tuple #[stV (filS s f) fv' sv' ov' kv',.int .i64 (filE s f)])∧(StN w' w.heap.size s.f fv s.store sv s.out ov s.k.l kv (filS s f) fv' sv' ov' kv' ∨ StN w' w.heap.size f gv s.store sv s.out ov s.k.l kv (filS s f) fv' sv' ov' kv')∧Below w.heap.size w w':=by
 obtain ⟨o1,c1,rfl⟩:∃ o c,sv=.slice o s.store.length c:=by obtain ⟨oa,cap,_,_,e,_⟩:=hS.ls;exact ⟨oa,cap,e⟩
 obtain ⟨o2,c2,rfl⟩:∃ o c,ov=.slice o s.out.length c:=by obtain ⟨oa,cap,_,_,e,_⟩:=hS.lo;exact ⟨oa,cap,e⟩
 have OA:=y35h (((Own.new w (stA s fv (.slice o1 s.store.length c1) (.slice o2 s.out.length c2) kv) 40).alloc (.cells #[.int .i64 f.op,.string f.text,.int .i64 f.n,.complex .f64 f.x f.y,gv] 32)).alloc (.cells stZ.toArray 40))
 have OP:=y35h ((Own.newAt (w.alloc (.cells (stA s fv (.slice o1 s.store.length c1) (.slice o2 s.out.length c2) kv) 40)) #[.int .i64 f.op,.string f.text,.int .i64 f.n,.complex .f64 f.x f.y,gv] 32 (b:=w.heap.size + 1) (by simp)).alloc (.cells stZ.toArray 40))
 have OT:=y35h (Own.newAt ((w.alloc (.cells (stA s fv (.slice o1 s.store.length c1) (.slice o2 s.out.length c2) kv) 40)).alloc (.cells #[.int .i64 f.op,.string f.text,.int .i64 f.n,.complex .f64 f.x f.y,gv] 32)) stZ.toArray 40 (b:=w.heap.size + 1 + 1) (by simp))
 have BEL:=y35h ((((Below.refl w.heap.size w).alloc (Nat.le_refl _) (.cells (stA s fv (.slice o1 s.store.length c1) (.slice o2 s.out.length c2) kv) 40)).alloc (by simp) (.cells #[.int .i64 f.op,.string f.text,.int .i64 f.n,.complex .f64 f.x f.y,gv] 32)).alloc (by simp;omega) (.cells stZ.toArray 40))
 have HW:=y35h hS
 have HL:=y35h hL
 have hfv:fv.oneCell'=true:=zas hS.lf
 have hgv:gv.oneCell'=true:=zas hL
 have hkv:kv.oneCell'=true:=by obtain ⟨_,_,e⟩:=hS.lk.val;rw [e];rfl
 unfold Value.oneCell' at hfv hgv hkv
 clear hS hL
 have CY:=fun w' h=>y35h (zhr f gv w' h hf)
 have CB:=fun w' h h'=>y35h (zkg behT zgp s.store s.out (.slice o1 s.store.length c1) (.slice o2 s.out.length c2) w' h h' (by omega) (by omega))
 have HAL:=y35h (show (zar behT s.store s.out).length≤400 from Nat.le_trans ziv (by omega))
 have HFF:=y35h (show filF s f=filN s f (zar behT s.store s.out) (zar behT s.store s.out).length by unfold filF filN;rw [List.take_of_length_le (Nat.le_refl _)])
 have EA:=y35h (zti (s:=s) (f:=f))
 have EB:=y35h (ztj (s:=s) (f:=f))
 have EC:=y35h (zn3 (s:=s) (f:=f))
 have lOA:=OA.out.cell
 have zOA:=OA.out.lt
 have lOP:=OP.out.cell
 have zOP:=OP.out.lt
 generalize Pr.mayB f=m at *
 generalize zar behT s.store s.out=A at CB HAL HFF
 by_cases hbad:m=false ∨ (s.f.op=1∧f.op ≠ 1)
 · rw [(EA.out hbad).1,(EA.out hbad).2]
   clear EA EB EC
   have hways:m=false ∨ (m=true∧(s.f.op == 1)=true∧(f.op != 1)=true):=by
     cases m with
     | false=>exact .inl rfl
     | true =>
       rcases hbad with h | h
       · cases h
       · exact .inr ⟨rfl,by rw [beq_iff_eq];exact h.1,by rw [bne_iff_ne];exact h.2⟩
   clear hbad
   rcases hways with rfl | ⟨rfl,g1,g2⟩
   all_goals
     go_enter Tryz.func81,Tryz.ntmps81
     go_upto_region 3 with (first | (go_at_call 57;refine (CY _ (HL.out.later BEL.out (Nat.le_refl _))).out.mono ?_;rintro e w1 ⟨rfl,hb⟩;replace OA:=y35h (OA.out.later hb);replace OP:=y35h (OP.out.later hb);replace OT:=y35h (OT.out.later hb);replace BEL:=y35h (BEL.out.trans (hb.mono BEL.out.size));clear hb;replace lOA:=OA.out.cell;replace zOA:=OA.out.lt;replace lOP:=OP.out.cell;replace zOP:=OP.out.lt) | fail)
     clear lOA zOA lOP zOP
     go_wp2_with (first | (refine wpList_load_mid (by rfl) 40 _ (by rfl) w.heap.size 0 (by rfl) (stA s fv (.slice o1 s.store.length c1) (.slice o2 s.out.length c2) kv).toList _ OA.out.range Tryz.underlying40 (by rfl) (by kernel_rfl) ?_) | (refine wpList_store_mid (by rfl) 40 _ _ (by rfl) (w.heap.size + 1 + 1) 0 (stA s fv (.slice o1 s.store.length c1) (.slice o2 s.out.length c2) kv) (by rfl) (by rfl) (OT.out.there (by rfl)) (by kernel_rfl) (by simp [Value.oneCell',hfv,hkv]) ?_) | fail)
     have HK:=y35h (And.intro (OT.out.sets (stA s fv (.slice o1 s.store.length c1) (.slice o2 s.out.length c2) kv).toList (by rfl)) (zaa (b:=w.heap.size + 1 + 1) (by omega) (stA s fv (.slice o1 s.store.length c1) (.slice o2 s.out.length c2) kv).toList 0 BEL.out))
     clear OA OP OT BEL
     revert HK
     generalize World.setCells _ _ _ _=WW
     intro HK
     exact zab (by rfl) (by rfl) (by rfl) HK.out.1.range Tryz.underlying40 (by rfl) (by kernel_rfl) rfl ⟨fv,_,_,kv,rfl,.inl ⟨.inl ⟨rfl,rfl⟩,.inl ⟨rfl,rfl⟩,.inl ⟨rfl,rfl⟩,.inl ⟨rfl,rfl⟩⟩,HK.out.2⟩
 · have hm:m=true:=by cases m;exact absurd (.inl rfl) hbad;rfl
   subst hm
   have hop:¬(s.f.op=1∧f.op ≠ 1):=fun h=>hbad (.inr h)
   have hways:(s.f.op == 1)=false ∨ ((s.f.op == 1)=true∧(f.op != 1)=false):=by
     by_cases h:s.f.op=1
     · refine .inr ⟨by rw [beq_iff_eq];exact h,?_⟩
       cases q:(f.op != 1) with
       | false=>rfl
       | true=>rw [bne_iff_ne] at q;exact absurd ⟨h,q⟩ hop
     · exact .inl (by rw [beq_eq_false_iff_ne];exact h)
   clear hbad EA
   by_cases hep:s.epoch=1000000
   · rw [(EB.out rfl hop hep).1,(EB.out rfl hop hep).2]
     clear EB EC hop
     have g3:(s.epoch == 1000000)=true:=by rw [beq_iff_eq];exact hep
     clear hep
     rcases hways with g1 | ⟨g1,g2⟩
     all_goals
       go_enter Tryz.func81,Tryz.ntmps81
       go_upto_region 5 with (first | (go_at_call 57;refine (CY _ (HL.out.later BEL.out (Nat.le_refl _))).out.mono ?_;rintro e w1 ⟨rfl,hb⟩;replace OA:=y35h (OA.out.later hb);replace OP:=y35h (OP.out.later hb);replace OT:=y35h (OT.out.later hb);replace BEL:=y35h (BEL.out.trans (hb.mono BEL.out.size));clear hb;replace lOA:=OA.out.cell;replace zOA:=OA.out.lt;replace lOP:=OP.out.cell;replace zOP:=OP.out.lt) | fail)
       clear lOA zOA lOP zOP
       go_wp2_with (first | (refine wpList_load_mid (by rfl) 40 _ (by rfl) w.heap.size 0 (by rfl) (stA s fv (.slice o1 s.store.length c1) (.slice o2 s.out.length c2) kv).toList _ OA.out.range Tryz.underlying40 (by rfl) (by kernel_rfl) ?_) | (refine wpList_store_mid (by rfl) 40 _ _ (by rfl) (w.heap.size + 1 + 1) 0 (stA s fv (.slice o1 s.store.length c1) (.slice o2 s.out.length c2) kv) (by rfl) (by rfl) (OT.out.there (by rfl)) (by kernel_rfl) (by simp [Value.oneCell',hfv,hkv]) ?_) | fail)
       have HK:=y35h (And.intro (OT.out.sets (stA s fv (.slice o1 s.store.length c1) (.slice o2 s.out.length c2) kv).toList (by rfl)) (zaa (b:=w.heap.size + 1 + 1) (by omega) (stA s fv (.slice o1 s.store.length c1) (.slice o2 s.out.length c2) kv).toList 0 BEL.out))
       clear OA OP OT BEL
       revert HK
       generalize World.setCells _ _ _ _=WW
       intro HK
       exact zab (by rfl) (by rfl) (by rfl) HK.out.1.range Tryz.underlying40 (by rfl) (by kernel_rfl) rfl ⟨fv,_,_,kv,rfl,.inl ⟨.inl ⟨rfl,rfl⟩,.inl ⟨rfl,rfl⟩,.inl ⟨rfl,rfl⟩,.inl ⟨rfl,rfl⟩⟩,HK.out.2⟩
   · rw [(EC.out rfl hop hep).1,(EC.out rfl hop hep).2]
     clear EB EC hop
     have g3:(s.epoch == 1000000)=false:=by rw [beq_eq_false_iff_ne];exact hep
     have he0:=he.1
     have he1:=he.2
     clear hep he
     go_enter Tryz.func81,Tryz.ntmps81
     go_upto_region 2 with (first | (go_at_call 57;refine (CY _ (HL.out.later BEL.out (Nat.le_refl _))).out.mono ?_;rintro e w1 ⟨rfl,hb⟩;replace OA:=y35h (OA.out.later hb);replace OP:=y35h (OP.out.later hb);replace OT:=y35h (OT.out.later hb);replace BEL:=y35h (BEL.out.trans (hb.mono BEL.out.size));clear hb;replace lOA:=OA.out.cell;replace zOA:=OA.out.lt;replace lOP:=OP.out.cell;replace zOP:=OP.out.lt) | fail)
     go_cut [24] (fun s24 wx=>s24=.bool false∧Hid (w1=wx))
     case first =>
       rcases hways with g1 | ⟨g1,g2⟩
       all_goals
         go_wp2_with fail
         go_meet
         exact ⟨rfl,rfl⟩
     case rest =>
       obtain ⟨rfl,hwx⟩:=hcut
       have ewx:=hwx.out
       subst ewx
       clear hwx hways
       go_upto_region 6 with fail
       go_wp2_with (first | (go_at_call 39;refine (CB _ (HW.out.ls.later BEL.out) (HW.out.lo.later BEL.out)).out.mono ?_;rintro e w2 ⟨va,rfl,hr,hb⟩;obtain ⟨oa,ca,rfl⟩:=hr.val;have RA:=y35h hr;replace OT:=y35h (OT.out.later hb);replace BEL:=y35h (BEL.out.trans (hb.mono BEL.out.size));replace OP:=y35h (OP.out.later hb);replace OA:=y35h (OA.out.later hb);clear hr hb;have O8:=y35h (Own.new w2 stZ.toArray 40);replace lOA:=OA.out.cell;replace zOA:=OA.out.lt;replace lOP:=OP.out.cell;replace zOP:=OP.out.lt) | (refine wpList_store_mid (by rfl) 40 _ _ (by rfl) w2.heap.size 0 (stA (filB s f) gv (.slice none 0 0) (.slice none 0 0) (.slice none 0 0)) (by rfl) (by rfl) (O8.out.there (by rfl)) (by kernel_rfl) (by simp [Value.oneCell',hgv]) ?_) | fail)
       have HK:=y35h (And.intro (O8.out.sets (stA (filB s f) gv (.slice none 0 0) (.slice none 0 0) (.slice none 0 0)).toList (by rfl)) (zaa (b:=w2.heap.size) (Nat.le_refl _) (stA (filB s f) gv (.slice none 0 0) (.slice none 0 0) (.slice none 0 0)).toList 0 ((Below.refl w2.heap.size w2).alloc (Nat.le_refl _) (.cells stZ.toArray 40))))
       clear O8 lOA zOA lOP zOP OA OP
       revert HK
       generalize World.setCells _ _ _ _=W8
       intro HK
       have FW:=y35h (show FlW w2 w2.heap.size (filN s f A 0) gv (.slice none 0 0) (.slice none 0 0) (.slice none 0 0) W8 from ⟨HK.out.1,zo8 _ _,zo8 _ _,zf8 _ _,HK.out.2⟩)
       clear HK
       have hb1:=OT.out.lt
       go_loopw [9] (fun iv wr=>z07 s f A w2 w2.heap.size gv iv wr) (fun iv _=>A.length - (intOf iv).toNat)
       case atStart=>exact ⟨0,Nat.zero_le _,rfl,_,_,_,FW.out⟩
       case round =>
         clear FW
         obtain ⟨k,hk,rfl,HF⟩:=hrel
         obtain ⟨sv,ov,kw,hF⟩:=HF.out
         clear HF
         by_cases hlt:k < A.length
         · obtain ⟨x,hx9⟩:∃ x,A[k]?=some x:=⟨_,List.getElem?_eq_getElem hlt⟩
           have hsm:=zro s f A k hk
           have hff:=ztk s f A k
           have HN:=y35h (zmc (s:=s) (f:=f) hx9)
           have hxok:=RA.out.oks x (List.mem_of_getElem? hx9)
           obtain ⟨oa',ca',ba,oA,e,hat⟩:=RA.out
           cases e
           obtain ⟨rfl,hbal⟩:=hat.at0 (by omega)
           have KC:=y35h (fun j z hz=>hat.cell k x hx9 j z hz)
           obtain ⟨c0,c1,c2,c3,c4,c5,c6,c7⟩:=zbe (w:=wr) (fun j z hz=>(hF.bel.cell (p:=⟨ba,oA + k * 8 + j,none⟩) hbal).trans (KC.out j z hz))
           have zb:=Nat.lt_of_lt_of_le hbal hF.bel.size
           have HAL2:=HAL.out
           generalize filN s f A k=u at *
           have CW:=y35h (zdr u.k x.id x.r x.c kw wr.drew (hF.rk.fr.later (Below.refl _ _).drew (Nat.le_refl _)) hxok.1 (by rw [zbk];omega) (by omega))
           have HF:=y35h hF
           have OB:=y35h hF.own
           have lOB:=OB.out.cell
           have zOB:=OB.out.lt
           have k0:(0:Int)≤(k:Int):=by omega
           have k1:(k:Int) < (A.length:Int):=by omega
           have HFU:=y35h hff
           have HSM:=y35h hsm
           have HXO:=y35h hxok
           have HBA:=y35h hbal
           clear hat hF hff hsm hxok hbal
           go_upto_region 11 with fail
           go_cut [9] (fun s9 wx=>s9=.int .i64 k∧Hid (∃ v,Own wx w2.heap.size (stA (filW u x) gv sv ov v) 40∧RowF wx (w2.heap.size + 1) u.store sv∧RowF wx (w2.heap.size + 1) u.out ov∧FrFresh wx (w2.heap.size + 1) (filW u x).k.l v∧Below w2.heap.size w2 wx))
           case first =>
             go_region_law (first
               | (go_simp;go_at_call 70;refine CW.out.mono ?_;rintro e w3 ⟨v3,rfl,hfr,hb3⟩;obtain ⟨o3,n3,rfl⟩:=hfr.fr.val;have OB3:=y35h (OB.out.drew.later hb3);have HFR:=y35h hfr;have HB3:=y35h hb3;clear hb3 hfr;have lO3:=OB3.out.cell;have fO3:=OB3.out.free;have zO3:=OB3.out.lt)
               | fail)
             all_goals
               have hB3:Below wr.heap.size wr w3:=zhy HB3.out
               have key:=And.intro (zwn OB3.out x (.slice o3 (zah (zal u.k x.id x.r x.c)).l.length n3)) (And.intro (zuv (b:=w2.heap.size) (HF.out.rs.later hB3) (Nat.lt_succ_self _) (.int .i64 (u.k.star 0)) (.int .i64 (u.k.star 1)) (.int .i64 (u.k.star 2)) (.int .i64 (u.k.star 3)) (.int .i64 (u.k.star 4)) (.int .i64 (u.k.star 5)) (.int .i64 (u.k.star 6)) (.int .i64 (u.k.star 7)) (.slice o3 (zah (zal u.k x.id x.r x.c)).l.length n3)) (And.intro (zuv (b:=w2.heap.size) (HF.out.ro.later hB3) (Nat.lt_succ_self _) (.int .i64 (u.k.star 0)) (.int .i64 (u.k.star 1)) (.int .i64 (u.k.star 2)) (.int .i64 (u.k.star 3)) (.int .i64 (u.k.star 4)) (.int .i64 (u.k.star 5)) (.int .i64 (u.k.star 6)) (.int .i64 (u.k.star 7)) (.slice o3 (zah (zal u.k x.id x.r x.c)).l.length n3)) (And.intro (zn9 (b:=w2.heap.size) (HFR.out.mono (show w2.heap.size + 1≤wr.drew.heap.size by have:=OB.out.lt;simp;omega)) (Nat.lt_succ_self _) (.int .i64 (u.k.star 0)) (.int .i64 (u.k.star 1)) (.int .i64 (u.k.star 2)) (.int .i64 (u.k.star 3)) (.int .i64 (u.k.star 4)) (.int .i64 (u.k.star 5)) (.int .i64 (u.k.star 6)) (.int .i64 (u.k.star 7)) (.slice o3 (zah (zal u.k x.id x.r x.c)).l.length n3)) (znt (b:=w2.heap.size) (HF.out.bel.trans (hB3.mono HF.out.bel.size)) (Nat.le_refl _) (.int .i64 (u.k.star 0)) (.int .i64 (u.k.star 1)) (.int .i64 (u.k.star 2)) (.int .i64 (u.k.star 3)) (.int .i64 (u.k.star 4)) (.int .i64 (u.k.star 5)) (.int .i64 (u.k.star 6)) (.int .i64 (u.k.star 7)) (.slice o3 (zah (zal u.k x.id x.r x.c)).l.length n3)))))
               clear lO3 fO3 zO3 OB3 HFR HB3 hB3
               go_wp2_with fail
               go_meet
               exact ⟨rfl,_,key.1,key.2.1,key.2.2.1,key.2.2.2.1,key.2.2.2.2⟩
           case rest =>
             obtain ⟨rfl,hc⟩:=hcut
             obtain ⟨v3,hO,hrs,hro,hrk,hbl⟩:=hc.out
             generalize wc=wq at *
             have OW:=y35h hO
             have RS:=y35h hrs
             have RO:=y35h hro
             have RK:=y35h hrk
             have BQ:=y35h hbl
             obtain ⟨d0,d1,d2,d3,d4,d5,d6,d7⟩:=zbe (w:=wq) (fun j z hz=>(BQ.out.cell (p:=⟨ba,oA + k * 8 + j,none⟩) HBA.out).trans (KC.out j z hz))
             have zb2:=Nat.lt_of_lt_of_le HBA.out BQ.out.size
             have hS3:StW wq.drew (filW u x) gv sv ov v3:=⟨by show LP _ u.f gv;rw [HFU.out];exact HL.out.later (BEL.out.trans ((BQ.out.mono BEL.out.size).drew)) (Nat.le_refl _),(RS.out.later (Below.refl _ _).drew).row,(RO.out.later (Below.refl _ _).drew).row,(RK.out.fr).later (Below.refl _ _).drew (Nat.le_refl _)⟩
             have CL:=y35h (show Calls Tryz.prog 71 #[stV (filW u x) gv sv ov v3,iV x,.bool true] wq.drew (fun e w'=>∃ sv' ov',e=.returned (stV (filP u x) gv sv' ov' v3)∧(StW w' (filP u x) gv sv' ov' v3∧RowF w' wq.drew.heap.size (filP u x).store sv'∧RowF w' wq.drew.heap.size (filP u x).out ov')∧Below wq.drew.heap.size wq.drew w') from ze3 (filW u x) gv sv ov v3 x true wq.drew hS3 HXO.out (by show u.f.size≤1000;rw [HFU.out];exact hf) (by show u.store.length≤1000;have:=HSM.out;omega) (by show u.out.length≤1000;have:=HSM.out;omega))
             have ov3:v3.oneCell'=true:=by obtain ⟨_,_,e⟩:=(RK.out.fr).val;rw [e];rfl
             unfold Value.oneCell' at ov3
             have RK2:=y35h (show FrFresh wq (w2.heap.size + 1) (filP u x).k.l v3 from RK.out)
             generalize filP u x=u2 at *
             clear hc hO hrs hro hrk hbl hS3 c0 c1 c2 c3 c4 c5 c6 c7 lOB zOB OB HF CW zb
             go_upto_region 12 with fail
             refine za2 5 (by kernel_rfl) (by kernel_rfl) ?_
             simp only [List.take_succ_cons,List.take_zero,List.drop_succ_cons,List.drop_zero]
             refine wpStill_step (fun K hK=>?_)
             rw [if_pos (by rfl)]
             refine zch 40 _ rfl w2.heap.size 0 (by rfl) (stA (filW u x) gv sv ov v3).toList _ (OW.out.drew.range) Tryz.underlying40 (by rfl) (by kernel_rfl) (hK _ ?_)
             clear hK K
             repeat (first | still_step)
             refine wpStill_nil ?_
             go_wp2_with (first | (go_at_call 71;refine CL.out.mono ?_;rintro e w4 ⟨sv4,ov4,rfl,⟨hst,hr1,hr2⟩,hb4⟩;have O4:=y35h (OW.out.drew.later hb4);have R1:=y35h (hr1.mono (B':=w2.heap.size + 1) (by have:=OW.out.lt;simp;omega));have R2:=y35h (hr2.mono (B':=w2.heap.size + 1) (by have:=OW.out.lt;simp;omega));have K4:=y35h (RK2.out.stays (zhy hb4));have B4:=y35h (BQ.out.trans ((zhy hb4).mono BQ.out.size));have os4:sv4.oneCell'=true:=(by obtain ⟨_,_,_,_,e,_⟩:=hst.ls;rw [e];rfl);have oo4:ov4.oneCell'=true:=(by obtain ⟨_,_,_,_,e,_⟩:=hst.lo;rw [e];rfl);unfold Value.oneCell' at os4 oo4;clear hst hr1 hr2 hb4) | (refine wpList_store_mid (by rfl) 40 _ _ (by rfl) w2.heap.size 0 (stA u2 gv sv4 ov4 v3) (by rfl) (by rfl) (O4.out.there (by rfl)) (by kernel_rfl) (by simp [Value.oneCell',hgv,os4,oo4,ov3]) ?_;have HK:=y35h (And.intro (O4.out.sets (stA u2 gv sv4 ov4 v3).toList (by rfl)) (And.intro (R1.out.sets (b:=w2.heap.size) (Nat.lt_succ_self _) (stA u2 gv sv4 ov4 v3).toList 0) (And.intro (R2.out.sets (b:=w2.heap.size) (Nat.lt_succ_self _) (stA u2 gv sv4 ov4 v3).toList 0) (And.intro (K4.out.sets (b:=w2.heap.size) (Nat.lt_succ_self _) (stA u2 gv sv4 ov4 v3).toList 0) (zaa (b:=w2.heap.size) (Nat.le_refl _) (stA u2 gv sv4 ov4 v3).toList 0 B4.out)))));clear O4 R1 R2 K4 B4 OW RS RO RK RK2 BQ;revert HK;generalize World.setCells _ _ _ _=W9;intro HK) | fail)
             go_roundw
             case rel=>exact ⟨k + 1,by omega,by go_num,by rw [HN.out];exact ⟨sv4,ov4,v3,HK.out.1,HK.out.2.1,HK.out.2.2.1,HK.out.2.2.2.1,HK.out.2.2.2.2⟩⟩
             case measure=>simp [intOf];omega
         · have e:k=A.length:=by omega
           subst e
           rw [← HFF.out] at hF
           have hff:(filF s f).f=f:=by rw [HFF.out];exact ztk s f A A.length
           have HF:=y35h hF
           have OB:=y35h hF.own
           have OT2:=y35h (OT.out.below hF.bel hb1)
           have BE2:=y35h (BEL.out.trans (hF.bel.mono BEL.out.size))
           have os5:sv.oneCell'=true:=by obtain ⟨_,_,_,_,e,_⟩:=hF.rs.row;rw [e];rfl
           have oo5:ov.oneCell'=true:=by obtain ⟨_,_,_,_,e,_⟩:=hF.ro.row;rw [e];rfl
           have ok5:kw.oneCell'=true:=by obtain ⟨_,_,e⟩:=hF.rk.fr.val;rw [e];rfl
           unfold Value.oneCell' at os5 oo5 ok5
           have HFU:=y35h hff
           clear hF hff
           have HST:=y35h (show StW wr (filF s f) gv sv ov kw from ⟨by rw [HFU.out];exact HL.out.later BE2.out (Nat.le_refl _),HF.out.rs.row,HF.out.ro.row,HF.out.rk.fr⟩)
           have HX:=y35h (show ∀ W,Below wr.heap.size wr W→StW W (filF s f) gv sv ov kw from fun W h=>HST.out.later h)
           generalize hU:filF s f=u at *
           have HU:=y35h hU
           clear hU
           have HK:=y35h (And.intro (OT2.out.sets (stA u gv sv ov kw).toList (by rfl)) (And.intro (zaa (b:=w.heap.size + 1 + 1) (by omega) (stA u gv sv ov kw).toList 0 BE2.out) (And.intro (HF.out.rs.sets (b:=w.heap.size + 1 + 1) (by omega) (stA u gv sv ov kw).toList 0) (And.intro (HF.out.ro.sets (b:=w.heap.size + 1 + 1) (by omega) (stA u gv sv ov kw).toList 0) (HF.out.rk.sets (b:=w.heap.size + 1 + 1) (by omega) (stA u gv sv ov kw).toList 0)))))
           have hlow:w.heap.size≤w2.heap.size + 1:=by have:=BEL.out.size;omega
           go_wp2_with (first | (refine wpList_load_mid (by rfl) 40 _ (by rfl) w2.heap.size 0 (by rfl) (stA u gv sv ov kw).toList _ OB.out.range Tryz.underlying40 (by rfl) (by kernel_rfl) ?_) | (refine wpList_store_mid (by rfl) 40 _ _ (by rfl) (w.heap.size + 1 + 1) 0 (stA u gv sv ov kw) (by rfl) (by rfl) (OT2.out.there (by rfl)) (by kernel_rfl) (by simp [Value.oneCell',hgv,os5,oo5,ok5]) ?_) | fail)
           revert HK
           generalize World.setCells _ _ _ _=WW
           intro HK
           exact zab (by rfl) (by rfl) (by rfl) HK.out.1.range Tryz.underlying40 (by rfl) (by kernel_rfl) rfl (by rw [HU.out];exact ⟨gv,sv,ov,kw,rfl,.inr ⟨.inl ⟨HFU.out,rfl⟩,.inr (HK.out.2.2.1.mono hlow),.inr (HK.out.2.2.2.1.mono hlow),.inr (HK.out.2.2.2.2.mono hlow)⟩,HK.out.2.1⟩)
end Go.Proofs.YtodfhabkdaiopaaGreat
