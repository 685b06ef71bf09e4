/- Joined: FreX, LocV, StGood3, RcvGood. -/
import Derived.Test.YtodfhabkdaiopaaGreatJ39
import Derived.Test.YtodfhabkdaiopaaGreatJ22
import Derived.Test.YtodfhabkdaiopaaGreatJ33
import Derived.Test.YtodfhabkdaiopaaGreatJ32
import Derived.Test.YtodfhabkdaiopaaGreatJ36
namespace Go.Proofs.YtodfhabkdaiopaaGreat
set_option linter.unusedVariables false
set_option linter.unusedSimpArgs false
set_option maxRecDepth 100000
set_option maxHeartbeats 8000000
open Go Go.RowKit
theorem y40h {p:Prop} (h:p):Go.RowKit.Hid p:=Lib.hid h
def wipe (w:World) (B:Nat):World:={ w with heap:=w.heap.mapIdx fun i o=>if i < B then .cells #[] 0 (0,0) else o }
theorem ziq (w:World) (B:Nat):(wipe w B).heap.size=w.heap.size:=by simp [wipe]
theorem zpk {w:World} {B b:Nat} (h:B≤b):(wipe w B).heap[b]?=w.heap[b]?:=by
 simp only [wipe,Array.getElem?_mapIdx]
 cases w.heap[b]? with
 | none=>rfl
 | some o=>simp [Nat.not_lt.2 h]
theorem zpj (w:World) (B:Nat):But (fun b=>b < B) w (wipe w B):=⟨by rw [ziq];exact Nat.le_refl _,fun b _ ht=>zpk (Nat.le_of_not_lt ht)⟩
theorem zf7 {w:World} {B b o:Nat} {u:Value} (h:(wipe w B).cell? ⟨b,o,none⟩=some u):B≤b∧w.cell? ⟨b,o,none⟩=some u:=by
 rcases Nat.lt_or_ge b B with hb | hb
 · exfalso
   have e:(wipe w B).heap[b]?=none ∨ (wipe w B).heap[b]?=some (.cells #[] 0 (0,0)):=by
     simp only [wipe,Array.getElem?_mapIdx]
     cases w.heap[b]? with
     | none=>exact .inl rfl
     | some o=>right;simp [hb]
   rcases e with e | e <;> simp [World.cell?,e] at h
 · exact ⟨hb,(World.cell?_of_block (w:=w) (a:=⟨b,o,none⟩) (zpk hb)).symm.trans h⟩
theorem zt7 {S:Nat→Prop} {w:World} {B:Nat} {p:Pr} {v:Value} (h:Lies 5 pc S (wipe w B) p v):Lies 5 pc (fun b=>B≤b∧S b) w p v:=by
 induction h with
 | mk op t n x y kids oa cap b o V ht hl hc hn hcell hrec ih =>
   refine .mk op t n x y kids oa cap b o V ht hl hc (fun h0=>⟨(hn h0).1,?_,(hn h0).2⟩) (fun i p hp j u hu=>(zf7 (hcell i p hp j u hu)).2) fun i p hp=>ih i p hp
   obtain ⟨q,hq⟩:∃ q,kids[0]?=some q:=⟨_,List.getElem?_eq_getElem h0⟩
   exact (zf7 (hcell 0 q hq 0 _ rfl)).1
theorem zwb {w:World} {B:Nat} {p:Pr} {v:Value} (h:Sure (fun b=>b < B) w fun w=>LP w p v):LPF w B p v :=
 (zt7 (h _ (zpj w B))).mono (fun _ _ _=>rfl) fun b hS=>⟨hS.1,by have:=hS.2;rwa [ziq] at this⟩
theorem zmv {w:World} {B:Nat} {l:List Itm} {v:Value} (h:Sure (fun b=>b < B) w fun w=>Row 8 ic w l v):RowF w B l v:=by
 obtain ⟨oa,cap,b,o,e,hr⟩:=h _ (zpj w B)
 refine ⟨oa,cap,b,o,e,⟨hr.len,hr.max,fun h0=>⟨(hr.at0 h0).1,by have:=(hr.at0 h0).2;rwa [ziq] at this⟩,fun k i hk j u hu=>(zf7 (hr.cell k i hk j u hu)).2,hr.ok⟩,fun h0=>?_⟩
 obtain ⟨i,hi⟩:∃ i,l[0]?=some i:=⟨_,List.getElem?_eq_getElem h0⟩
 exact (zf7 (hr.cell 0 i hi 0 _ rfl)).1
theorem zv0 {w:World} {B:Nat} {l:List Fr} {v:Value} (h:Sure (fun b=>b < B) w fun w=>FrW w l v):FrFresh w B l v:=fun w' h1 h2=>h w' ⟨h2,fun b hb ht=>h1 b (Nat.le_of_not_lt ht) hb⟩
theorem zdf (s:St) (fv sv ov kv:Value) (w:World) (hS:StW w s fv sv ov kv) (hf:s.f.size≤1000) (h1:s.store.length≤1000) (h2:s.out.length≤1000) (h3:s.k.l.length≤10000) (h4:(zaf s.k.l).length≤10000) :
   Calls Tryz.prog 58 #[stV s fv sv ov kv] w fun e w'=>∃ fv' sv' ov' kv',e=.returned (stV s fv' sv' ov' kv')∧LPF w' w.heap.size s.f fv'∧RowF w' w.heap.size s.store sv'∧RowF w' w.heap.size s.out ov'∧FrFresh w' w.heap.size s.k.l kv'∧Below w.heap.size w w' :=
 (zel s fv sv ov kv w hS hf (Nat.le_trans h1 (by decide)) (Nat.le_trans h2 (by decide)) h3 h4).mono fun _ _ ⟨fv',sv',ov',kv',he,h,hb⟩=>⟨fv',sv',ov',kv',he,zwb (h.imp fun _ h=>h.lf),zmv (h.imp fun _ h=>h.ls),zmv (h.imp fun _ h=>h.lo),zv0 (h.imp fun _ h=>h.lk),hb⟩
end Go.Proofs.YtodfhabkdaiopaaGreat
namespace Go.Proofs.YtodfhabkdaiopaaGreat
set_option linter.unusedVariables false
set_option linter.unusedSimpArgs false
set_option maxRecDepth 100000
set_option maxHeartbeats 8000000
open Go.RowKit
def gotI (s:St) (id:ByteArray):Itm × Bool:=if (getI s.store id).2=true then getI s.store id else getI s.out id
theorem zoc {s:St} (h:Good s) (id:ByteArray):gotI s id=zae s id:=by
 unfold gotI
 rcases ze0 h id with ⟨i,hi,e,hq⟩ | ⟨i,hi,e,hq⟩ | ⟨h1,h2,hq⟩
 · have:=(zfh h.rs).1 hi
   rw [e] at this
   rw [hq,this];rfl
 · have h1:getI s.store id=(Itm.zero,false):=zc0 fun j hj e'=>h.tw i hi j hj (e'.trans e.symm)
   have h2:=(zfh h.ro).1 hi
   rw [e] at h2
   rw [hq,h1,h2];rfl
 · rw [hq,zc0 h1,zc0 h2];rfl
theorem zh8 (s:St) (fv sv ov kv:Value) (id:ByteArray) (w:World) (hS:StW w s fv sv ov kv) (r1:zap s.store) (r2:zap s.out) (h1:s.store.length≤1000) (h2:s.out.length≤1000) (hid:id.size≤maxLen) :
   Calls Tryz.prog 148 #[stV s fv sv ov kv,.string id] w fun e w'=>e=.returned (.tuple #[iV (gotI s id).1,.bool (gotI s id).2])∧Below w.heap.size w w':=by
 obtain ⟨of_,cf,rfl⟩:=zao hS.lf
 obtain ⟨os,cs,rfl⟩:=hS.ls.val
 obtain ⟨oo,co,rfl⟩:=hS.lo.val
 obtain ⟨ok,ck,rfl⟩:=hS.lk.val
 have OA:=y40h ((Own.new w (stA s (.slice of_ s.f.kids.length cf) (.slice os s.store.length cs) (.slice oo s.out.length co) (.slice ok s.k.l.length ck)) 40).alloc (.cells (iA Itm.zero) 58))
 have OT:=y40h (Own.newAt (w.alloc (.cells (stA s (.slice of_ s.f.kids.length cf) (.slice os s.store.length cs) (.slice oo s.out.length co) (.slice ok s.k.l.length ck)) 40)) (iA Itm.zero) 58 (b:=w.heap.size + 1) (by simp))
 have BE:=y40h (((Below.refl w.heap.size w).alloc (Nat.le_refl _) (.cells (stA s (.slice of_ s.f.kids.length cf) (.slice os s.store.length cs) (.slice oo s.out.length co) (.slice ok s.k.l.length ck)) 40)).alloc (by simp) (.cells (iA Itm.zero) 58))
 have HW:=y40h hS
 have G1:=fun w' h=>y40h (zd0 s.store id (.slice os s.store.length cs) w' h r1 h1 hid)
 have G2:=fun w' h=>y40h (zd0 s.out id (.slice oo s.out.length co) w' h r2 h2 hid)
 clear hS r1 r2 h1 h2 hid
 unfold gotI
 generalize getI s.store id=q1 at *
 generalize getI s.out id=q2 at *
 obtain ⟨x1,b1⟩:=q1
 obtain ⟨x2,b2⟩:=q2
 have l0:=OA.out.cell
 have z0:=OA.out.lt
 cases b1
 · go_enter Tryz.func148,Tryz.ntmps148
   go_wp2_with fail
   refine (G1 _ (HW.out.ls.later BE.out)).out.mono ?_
   rintro e w1 ⟨rfl,hb⟩
   clear l0 z0
   replace BE:=y40h (BE.out.trans (hb.mono BE.out.size))
   replace OA:=y40h (OA.out.later hb)
   replace OT:=y40h (OT.out.later hb)
   clear hb
   replace BE:=y40h (BE.out.alloc (by have:=BE.out.size;omega) (.cells (iA x1) 58))
   replace OA:=y40h (OA.out.alloc (.cells (iA x1) 58))
   replace OT:=y40h (OT.out.alloc (.cells (iA x1) 58))
   have l0:=OA.out.cell
   have z0:=OA.out.lt
   go_wp2_with fail
   refine (G2 _ (HW.out.lo.later BE.out)).out.mono ?_
   rintro e w3 ⟨rfl,hb⟩
   clear l0 z0
   have BE3:=y40h (BE.out.trans (hb.mono BE.out.size))
   have OT3:=y40h (OT.out.later hb)
   clear BE OA OT hb
   have HK:=y40h (And.intro (OT3.out.sets (ic x2) (by rfl)) (zaa (b:=w.heap.size + 1) (by omega) (ic x2) 0 BE3.out))
   go_wp2_with (first | (refine wpList_store_mid (by rfl) 58 _ _ (by rfl) (w.heap.size + 1) 0 (iA x2) (by rfl) (by rfl) (OT3.out.there (by rfl)) (by kernel_rfl) (by simp [Value.oneCell']) ?_) | fail)
   revert HK
   generalize World.setCells _ _ _ _=WW
   intro HK
   exact zab (by rfl) (by rfl) (by rfl) (l:=ic x2) HK.out.1.range Tryz.underlying58 (by rfl) (by kernel_rfl) rfl ⟨rfl,HK.out.2⟩
 · go_enter Tryz.func148,Tryz.ntmps148
   go_wp2_with fail
   refine (G1 _ (HW.out.ls.later BE.out)).out.mono ?_
   rintro e w1 ⟨rfl,hb⟩
   clear l0 z0
   replace BE:=y40h (BE.out.trans (hb.mono BE.out.size))
   replace OT:=y40h (OT.out.later hb)
   clear hb OA
   have O6:=y40h (Own.new w1 (iA x1) 58)
   have zw:=OT.out.lt
   replace BE:=y40h (BE.out.alloc (by have:=BE.out.size;omega) (.cells (iA x1) 58))
   replace OT:=y40h (OT.out.alloc (.cells (iA x1) 58))
   have HK:=y40h (And.intro (OT.out.sets (ic x1) (by rfl)) (zaa (b:=w.heap.size + 1) (by omega) (ic x1) 0 BE.out))
   have l6:=O6.out.cell
   go_wp2_with (first | (refine wpList_store_mid (by rfl) 58 _ _ (by rfl) (w.heap.size + 1) 0 (iA x1) (by rfl) (by rfl) (OT.out.there (by rfl)) (by kernel_rfl) (by simp [Value.oneCell']) ?_) | fail)
   revert HK
   generalize World.setCells _ _ _ _=WW
   intro HK
   exact zab (by rfl) (by rfl) (by rfl) (l:=ic x1) HK.out.1.range Tryz.underlying58 (by rfl) (by kernel_rfl) rfl ⟨rfl,HK.out.2⟩
abbrev znn (x:Itm):Itm:=⟨x.id,1,1,1,x.kd,x.num,x.x,x.y,x.d⟩
theorem zho (x:Itm) (w:World) :
   Calls Tryz.prog 149 #[iV x] w fun e w'=>e=.returned (.bool (mayT (znn x)))∧Below w.heap.size w w':=by
 have BE:=y40h ((Below.refl w.heap.size w).alloc (Nat.le_refl _) (.cells (iA (znn x)) 58))
 have M:=fun w'=>y40h (zkz (znn x) w')
 generalize mayT (znn x)=b at *
 go_enter Tryz.func149,Tryz.ntmps149
 go_wp2_with (go_at_call 134;refine (M _).out.mono ?_;rintro e w3 ⟨rfl,hb3⟩)
 go_ret
 exact ⟨rfl,BE.out.trans (hb3.mono BE.out.size)⟩
theorem zj2 {s:St} {x:Itm} (h:Good s) (hx:mayT x=true) (hf:zbi s=false):mayT (zak s x)=true:=by
 obtain ⟨h1,h2,_,_,_,h6,h7⟩:=mayT_iff.1 hx
 obtain ⟨hc,ht⟩:=zoa h hf
 have:=h.c
 have:=h.t
 refine mayT_iff.2 ⟨h1,h2,h.r,?_,?_,h6,h7⟩
 · show 1≤s.count + 1∧s.count + 1≤1000;omega
 · show 1≤s.clock + 1∧s.clock + 1≤1000000;omega
theorem zzx {s:St} {x:Itm} (h:creE s x=0):mayT x=true∧zbi s=false∧((zae s x.id).2=true ∨ s.store.length + s.out.length ≠ 40):=by
 unfold creE at h
 split at h
 · rename_i h1
   split at h
   · cases h
   · split at h
     · cases h
     · rename_i h3
       split at h
       · cases h
       · rename_i h4
         refine ⟨h1,by simpa using h4,?_⟩
         cases q:(zae s x.id).2 with
         | true=>exact .inl rfl
         | false=>exact .inr fun e=>h3 ⟨q,e⟩
 · cases h
theorem z0t {s:St} {x:Itm} (h:updE s x=0):mayT x=true∧zbi s=false∧(zae s x.id).2=true:=by
 unfold updE at h
 split at h
 · rename_i h1
   split at h
   · rename_i h2
     split at h
     · cases h
     · rename_i h4;exact ⟨h1,by simpa using h4,h2.1⟩
   · cases h
 · cases h
theorem zta {s:St} {id:ByteArray} (h:delE s id=0):zbd id=true∧zbi s=false∧(zae s id).2=true∧(zae s id).1.d=false:=by
 unfold delE at h
 split at h
 · rename_i h1
   split at h
   · rename_i h2
     split at h
     · cases h
     · rename_i h4;exact ⟨h1,by simpa using h4,h2.1,h2.2⟩
   · cases h
 · cases h
theorem zvp {s:St} {x:Itm} (h:Good s):Good (creS s x):=by
 unfold creS
 split
 · rename_i e
   obtain ⟨h1,h2,h3⟩:=zzx e
   refine zic h (zj2 h h1 h2) h2 (h3.imp id fun q=>?_)
   have:=h.n;omega
 · exact h
theorem zxo {s:St} {x:Itm} (h:Good s):Good (updS s x):=by
 unfold updS
 split
 · rename_i e
   obtain ⟨h1,h2,h3⟩:=z0t e
   exact zic h (zj2 h h1 h2) h2 (.inl h3)
 · exact h
theorem zvq {i:Itm} (h:mayT i=true):mayT (zfv i)=true:=h
theorem zvr {s:St} {id:ByteArray} (h:Good s):Good (delS s id):=by
 unfold delS
 split
 · rename_i e
   obtain ⟨_,h2,h3,_⟩:=zta e
   obtain ⟨m1,m2⟩:=zlh h h3
   refine zic h (zj2 h (zvq m1) h2) h2 (.inl ?_)
   show (zae s (zae s id).1.id).2=true
   rw [m2];exact h3
 · exact h
theorem ztl {s:St} {f:Pr} (h:Good s):Good (filS s f):=by
 unfold filS
 split
 · rename_i e;exact zvu h e
 · exact h
theorem zqm {s:St} (h:Good s) (d:De):Good (doS s d):=by
 unfold doS
 split
 · exact zvp h
 · split
   · exact zxo h
   · split
     · exact zvr h
     · exact ztl h
theorem zz5 {s:St} {d:De} (h:doE s d ≠ 0):doS s d=s:=by
 unfold doE at h
 unfold doS
 split
 · rename_i q;rw [if_pos q] at h;unfold creS;rw [if_neg h]
 · rename_i q
   rw [if_neg q] at h
   split
   · rename_i q2;rw [if_pos q2] at h;unfold updS;rw [if_neg h]
   · rename_i q2
     rw [if_neg q2] at h
     split
     · rename_i q3;rw [if_pos q3] at h;unfold delS;rw [if_neg h]
     · rename_i q3;rw [if_neg q3] at h;unfold filS;rw [if_neg h]
theorem zym {s:St} {d:De} (hG:Good s) (h:doE s d=0) (hp:za4 d.what ≠ 3):∃ x,doS s d=zbb s x∧x.id=d.id∧x.d=decide (za4 d.what=2):=by
 have hp4:=ziz d.what
 unfold doE at h
 unfold doS
 split
 · rename_i q
   rw [if_pos q] at h
   exact ⟨_,by unfold creS;rw [if_pos h],rfl,by rw [q];rfl⟩
 · rename_i q
   rw [if_neg q] at h
   split
   · rename_i q2
     rw [if_pos q2] at h
     exact ⟨_,by unfold updS;rw [if_pos h],rfl,by rw [q2];rfl⟩
   · rename_i q2
     rw [if_neg q2] at h
     split
     · rename_i q3
       rw [if_pos q3] at h
       refine ⟨zfv (zae s d.id).1,by unfold delS;rw [if_pos h],(zlh hG (zta h).2.2.1).2,by rw [q3];rfl⟩
     · rename_i q3;exfalso;omega
theorem zz6 {s:St} {d:De} (h:doE s d=0) (hp:za4 d.what=3):doS s d=filF s d.f:=by
 unfold doE at h
 unfold doS
 rw [hp] at h ⊢
 simp only [show ((3:Int)=0)=False by simp,show ((3:Int)=1)=False by simp,show ((3:Int)=2)=False by simp,if_false] at h ⊢
 unfold filS;rw [if_pos h]
end Go.Proofs.YtodfhabkdaiopaaGreat
namespace Go.Proofs.YtodfhabkdaiopaaGreat
set_option linter.unusedVariables false
set_option linter.unusedSimpArgs false
set_option maxRecDepth 100000
set_option maxHeartbeats 8000000
open Go Go.RowKit
theorem comes_iff {s:St} {x:Itm}:zbc s x=true ↔ mayT x=true∧(x.r=s.r→x.c≤s.count):=by
 unfold zbc
 rw [Bool.and_eq_true,Bool.or_eq_true,Bool.not_eq_true',decide_eq_false_iff_not,decide_eq_true_eq]
 constructor
 · rintro ⟨h1,h2⟩;exact ⟨h1,fun e=>h2.elim (fun h=>absurd e h) id⟩
 · rintro ⟨h1,h2⟩
   refine ⟨h1,?_⟩
   by_cases e:x.r=s.r
   · exact .inr (h2 e)
   · exact .inl e
theorem zoy {s:St} {x:Itm} (h:Good s) (hc:zbc s x=true):Good (preR s x):=by
 obtain ⟨h1,h2⟩:=comes_iff.1 hc
 have m:=mayT_iff.1 h1
 have ht:=h.t
 have so:∀ w i,Stood s w i→Stood (preR s x) w i:=fun w i hi=>⟨hi.has,zhi _ _ _ _ _ _ _ hi.knows,by have:=hi.stamp;show i.st≤max s.clock x.st;omega⟩
 exact ⟨h.f,h.st,h.ou,zfz h.k m.1 ⟨by omega,by omega⟩,h.r,h.n,h.c,by show 0≤max s.clock x.st∧max s.clock x.st≤1000000;omega,h.e,h.tw,fun i hi=>so _ i (h.si i hi),fun i hi=>so _ i (h.so i hi),ze6 h.c.1 (zfs h.c.1 h.b h2 (by omega) m.2.2.1)⟩
theorem laid_mem_s {s:St} {x i:Itm}:i∈zam s x ↔ (i∈s.store∧i.id ≠ x.id) ∨ (i=x∧hasT s.f x=true):=by
 unfold zam
 cases hh:hasT s.f x with
 | true =>
   rw [if_pos rfl,mem_put,mem_drop]
   constructor
   · rintro (e | ⟨⟨e1,e2⟩,_⟩)
     · exact .inr ⟨e,rfl⟩
     · exact .inl ⟨e1,e2⟩
   · rintro (⟨e1,e2⟩ | ⟨e,_⟩)
     · exact .inr ⟨⟨e1,e2⟩,e2⟩
     · exact .inl e
 | false =>
   rw [if_neg (by simp),mem_drop]
   constructor
   · rintro ⟨e1,e2⟩;exact .inl ⟨e1,e2⟩
   · rintro (⟨e1,e2⟩ | ⟨_,e⟩)
     · exact ⟨e1,e2⟩
     · cases e
theorem zgx {s:St} {x:Itm}:laidOut s x false=s.out.filter (neB x.id):=by
 unfold laidOut
 split
 · rfl
 · rw [if_neg (by decide)]
theorem laid_mem_o {s:St} {x i:Itm}:i∈laidOut s x false ↔ i∈s.out∧i.id ≠ x.id:=by rw [zgx,mem_drop]
theorem zt1 {s:St} {x:Itm} (h:Good s) (hx:mayT x=true) (hk:hasK s.k x.id x.r x.c=true) (hst:x.st≤s.clock) (hroom:hasT s.f x=true→(zae s x.id).2=true ∨ s.store.length + s.out.length < 40):Good (zbv s x false):=by
 have so:∀ w i,Stood s w i→Stood (zbv s x false) w i:=fun w i hi=>⟨hi.has,hi.knows,hi.stamp⟩
 refine ⟨h.f,?_,?_,h.k,h.r,?_,h.c,h.t,h.e,fun i hi j hj=>?_,fun i hi=>?_,fun i hi=>?_,h.b⟩
 · show zdc (zam s x)=true
   unfold zam
   split
   · exact zlw (zcv h.st) hx
   · exact zcv h.st
 · show zdc (laidOut s x false)=true
   rw [zgx];exact zcv h.ou
 · show (zam s x).length + (laidOut s x false).length≤40
   rw [zgx]
   have hn:=h.n
   have f1:=zdn s.store x.id
   have f2:=zdn s.out x.id
   have p1:=zc1 (s.store.filter (neB x.id)) x
   unfold zam
   split
   · rename_i hh
     have hd:(s.store.filter (neB x.id)).length + (s.out.filter (neB x.id)).length + 1≤40:=by
       rcases ze0 h x.id with ⟨i,hi,e,hq⟩ | ⟨i,hi,e,hq⟩ | ⟨_,_,hq⟩
       · have:=zis ⟨i,hi,e⟩;omega
       · have:=zis ⟨i,hi,e⟩;omega
       · rcases hroom hh with hr | hr
         · rw [hq] at hr;cases hr
         · omega
     omega
   · omega
 · have a:=laid_mem_o.1 hi
   rcases laid_mem_s.1 hj with ⟨b1,b2⟩ | ⟨b1,b2⟩
   · exact h.tw i a.1 j b1
   · rw [b1];exact fun e=>a.2 e.symm
 · rcases laid_mem_s.1 hi with ⟨a1,_⟩ | ⟨a1,a2⟩
   · exact so _ i (h.si i a1)
   · rw [a1];exact ⟨a2,hk,hst⟩
 · exact so _ i (h.so i (laid_mem_o.1 hi).1)
theorem zj4 {s:St} {x:Itm} (hx:mayT x=true):hasK (preR s x).k x.id x.r x.c=true:=by
 have m:=mayT_iff.1 hx
 exact zhh _ _ m.2.2.1.1 m.2.2.1.2 m.2.2.2.1.1
theorem ztn {s:St} {x:Itm} (h:Good s) (hn:newB s x=true) (hf:zcj s x=false):hasT s.f x=true→(zae s x.id).2=true ∨ s.store.length + s.out.length < 40:=fun hh=>by
 cases hs:(zae s x.id).2
 · right
   have:=h.n
   unfold zcj at hf
   rw [hn,hh,hs] at hf
   have:¬ (s.store.length + s.out.length=40):=by simpa using hf
   omega
 · exact .inl rfl
theorem zg9 {s:St} {x:Itm} (h:Good s) :
   (zax s x=s∧(za8 s x ≠ 0 ∨ (za8 s x=0∧zbc s x=true∧hasK s.k x.id x.r x.c=true))) ∨
   (za8 s x=0∧zbc s x=true∧hasK s.k x.id x.r x.c=false∧newB s x=false∧zax s x=preR s x) ∨
   (za8 s x=0∧zbc s x=true∧hasK s.k x.id x.r x.c=false∧newB s x=true∧zcj s x=false∧zax s x=zbv (preR s x) x false):=by
 unfold zax za8
 cases hc:zbc s x
 · left;simp
 · cases hk:hasK s.k x.id x.r x.c
   · cases hf:zcj s x
     · cases hn:newB s x
       · right;left;simp
       · right;right;simp
     · left;simp
   · left;simp
theorem znc {s:St} {x:Itm} (h:Good s) (hc:zbc s x=true) (hn:newB s x=true) (hf:zcj s x=false):Good (zbv (preR s x) x false) :=
 zt1 (zoy h hc) (comes_iff.1 hc).1 (zj4 (comes_iff.1 hc).1) (by show x.st≤max s.clock x.st;omega) (show hasT s.f x=true→(zae s x.id).2=true ∨ s.store.length + s.out.length < 40 from ztn h hn hf)
theorem zif {s:St} {x:Itm} (h:Good s):Good (zax s x):=by
 rcases zg9 (x:=x) h with ⟨e,_⟩ | ⟨_,hc,_,_,e⟩ | ⟨_,hc,_,hn,hf,e⟩
 · rw [e];exact h
 · rw [e];exact zoy h hc
 · rw [e];exact znc h hc hn hf
theorem zq6 {s:St} {x:Itm}:0≤za8 s x∧za8 s x≤10:=by
 unfold za8
 split
 · split
   · omega
   · split <;> omega
 · omega
theorem zr8 {s:St} {x:Itm} (h:Good s) (he:za8 s x=0):zbc s x=true∧hasK (zax s x).k x.id x.r x.c=true:=by
 rcases zg9 (x:=x) h with ⟨e,h0⟩ | ⟨_,hc,_,_,e⟩ | ⟨_,hc,_,hn,hf,e⟩
 · rcases h0 with h0 | ⟨_,h1,h2⟩
   · exact absurd he h0
   · rw [e];exact ⟨h1,h2⟩
 · rw [e];exact ⟨hc,zj4 (comes_iff.1 hc).1⟩
 · rw [e];exact ⟨hc,zj4 (comes_iff.1 hc).1⟩
theorem zl9 {s:St} {id:ByteArray} (h:Good s):Good (zbz s id):=by
 have so:∀ w i,Stood s w i→Stood (zbz s id) w i:=fun w i hi=>⟨hi.has,hi.knows,hi.stamp⟩
 refine ⟨h.f,zcv h.st,h.ou,h.k,h.r,?_,h.c,h.t,h.e,fun i hi j hj=>h.tw i hi j (mem_drop.1 hj).1,fun i hi=>so _ i (h.si i (mem_drop.1 hi).1),fun i hi=>so _ i (h.so i hi),h.b⟩
 have f1:=zdn s.store id
 have:=h.n
 show (s.store.filter (neB id)).length + s.out.length≤40
 omega
theorem ver_iff {r c:Int}:verB r c=true ↔ (1≤r∧r≤8)∧(1≤c∧c≤1000):=by
 unfold verB
 rw [Bool.and_eq_true,zit,zit]
theorem ztx {s:St} {id:ByteArray} {r c:Int} (h:Good s) (hid:zbd id=true) (hv:verB r c=true) (hc:r ≠ s.r ∨ c≤s.count):Good ⟨s.r,s.f,s.store,s.out,zcs s id r c,s.count,s.clock,s.epoch⟩:=by
 have m:=ver_iff.1 hv
 have so:∀ w i,Stood s w i→Stood ⟨s.r,s.f,s.store,s.out,zcs s id r c,s.count,s.clock,s.epoch⟩ w i:=fun w i hi=>⟨hi.has,zhi _ _ _ _ _ _ _ hi.knows,hi.stamp⟩
 exact ⟨h.f,h.st,h.ou,zfz h.k hid ⟨by omega,by omega⟩,h.r,h.n,h.c,h.t,h.e,h.tw,fun i hi=>so _ i (h.si i hi),fun i hi=>so _ i (h.so i hi),ze6 h.c.1 (zfs h.c.1 h.b (fun e=>hc.elim (fun h=>absurd e h) (fun h=>h)) (by omega) m.1)⟩
theorem zkr {s:St} {id:ByteArray} {r c r2 q2:Int} (h:Good s) :
   zb0 s id r c r2 q2=s ∨ (zbd id=true∧zb0 s id r c r2 q2=zbz s id) ∨ (zbd id=true∧verB r2 q2=true∧(r2 ≠ s.r ∨ q2≤s.count)∧zb0 s id r c r2 q2=⟨s.r,s.f,s.store.filter (neB id),s.out,zcs s id r2 q2,s.count,s.clock,s.epoch⟩):=by
 unfold zb0
 split
 · rename_i hw
   obtain ⟨i,hi,e⟩:=get_is.1 hw.1
   have hid:zbd id=true:=by rw [← e];exact (mayT_iff.1 ((mayLB_iff.1 h.st).1 i hi)).1
   split
   · rename_i hv;exact .inr (.inr ⟨hid,hv.1,hv.2,rfl⟩)
   · exact .inr (.inl ⟨hid,rfl⟩)
 · exact .inl rfl
theorem zmi {s:St} {id:ByteArray} {r c r2 q2:Int} (h:Good s):Good (zb0 s id r c r2 q2):=by
 rcases zkr (id:=id) (r:=r) (c:=c) (r2:=r2) (q2:=q2) h with e | ⟨_,e⟩ | ⟨h1,h2,h3,e⟩
 · rw [e];exact h
 · rw [e];exact zl9 h
 · rw [e];exact ztx (zl9 (id:=id) h) h1 h2 h3
theorem zur {s:St} {x:Itm} (h:Good s):(zaf (zax s x).k.l).length≤(zaf s.k.l).length + 1∧(zax s x).k.l.length≤max s.k.l.length ((zaf s.k.l).length + 1):=by
 have h1:=zda (zal s.k x.id x.r x.c)
 rw [zbk] at h1
 rcases zg9 (x:=x) h with ⟨e,_⟩ | ⟨_,_,_,_,e⟩ | ⟨_,_,_,_,_,e⟩
 · rw [e];omega
 · rw [e];exact ⟨h1.1,Nat.le_trans h1.2 (by omega)⟩
 · rw [e];exact ⟨h1.1,Nat.le_trans h1.2 (by omega)⟩
theorem ztt {s:St} {id:ByteArray} {r c r2 q2:Int} (h:Good s):(zaf (zb0 s id r c r2 q2).k.l).length≤(zaf s.k.l).length + 1∧(zb0 s id r c r2 q2).k.l.length≤max s.k.l.length ((zaf s.k.l).length + 1):=by
 have h1:=zda (zal s.k id r2 q2)
 rw [zbk] at h1
 rcases zkr (id:=id) (r:=r) (c:=c) (r2:=r2) (q2:=q2) h with e | ⟨_,e⟩ | ⟨_,_,_,e⟩
 · rw [e];omega
 · rw [e];show (zaf s.k.l).length≤_∧s.k.l.length≤_;omega
 · rw [e];exact ⟨h1.1,Nat.le_trans h1.2 (by omega)⟩
end Go.Proofs.YtodfhabkdaiopaaGreat
