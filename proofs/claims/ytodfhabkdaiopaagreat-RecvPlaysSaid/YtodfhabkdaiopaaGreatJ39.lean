/- Joined: FreK, RcvM, FreS, RcvL. -/
import Derived.Test.YtodfhabkdaiopaaGreatJ38
import Derived.Test.YtodfhabkdaiopaaGreatJ28
import Derived.Test.YtodfhabkdaiopaaGreatJ33
import Derived.Test.YtodfhabkdaiopaaGreatJ37
import Derived.Test.YtodfhabkdaiopaaGreatJ36
namespace Go.Proofs.YtodfhabkdaiopaaGreat
set_option linter.unusedVariables false
set_option linter.unusedSimpArgs false
set_option maxRecDepth 100000
set_option maxHeartbeats 8000000
open Go.RowKit
abbrev y39a:=@List.getElem_toArray
abbrev y39b:=@List.getElem_cons_zero
abbrev y39c:=@List.getElem_cons_succ
abbrev y39d:=@List.setIfInBounds_toArray
abbrev y39e:=@List.set_cons_zero
abbrev y39f:=@List.set_cons_succ
theorem y39h {p:Prop} (h:p):Go.RowKit.Hid p:=Lib.hid h
abbrev knZ:Array Value:=#[.int .i64 0,.int .i64 0,.int .i64 0,.int .i64 0,.int .i64 0,.int .i64 0,.int .i64 0,.int .i64 0,.slice none 0 0]
structure KnX (w:World) (k:Kn) (kv:Value) (X:World):Prop where
 a:Own X w.heap.size (knA k.star kv) 38
 t:Own X (w.heap.size + 1) knZ 38
 b:Below w.heap.size w X
theorem KnX.later {w X X':World} {k:Kn} {kv:Value} (h:KnX w k kv X) (hb:Below X.heap.size X X'):KnX w k kv X':=⟨h.a.later hb,h.t.later hb,h.b.trans (hb.mono h.b.size)⟩
theorem KnX.setK {w X:World} {k:Kn} {kv:Value} (h:KnX w k kv X) (kv':Value):KnX w k kv' (X.setCell ⟨w.heap.size,8,none⟩ kv') :=
 ⟨by have:=h.a.set 8 kv';exact this,h.t.setFar _ _ (by show w.heap.size + 1 ≠ w.heap.size;omega),h.b.setCell (p:=⟨w.heap.size,8,none⟩) (Nat.le_refl _) _⟩
theorem KnX.fin {w wr:World} {k:Kn} {kv:Value} (h:KnX w k kv wr) (hk:FrFresh wr (w.heap.size + 2) k.l kv) (vs:List Value) (hv:vs=(knA k.star kv).toList) :
   Own (wr.setCells (w.heap.size + 1) 0 vs) (w.heap.size + 1) vs.toArray 38∧FrFresh (wr.setCells (w.heap.size + 1) 0 vs) w.heap.size k.l kv∧Below w.heap.size w (wr.setCells (w.heap.size + 1) 0 vs):=by
 have hb:w.heap.size + 1 < w.heap.size + 2:=by omega
 exact ⟨h.t.sets vs (by rw [hv];rfl),(hk.sets hb vs 0).mono (by omega),zaa (b:=w.heap.size + 1) (by omega) vs 0 h.b⟩
theorem zm9 (k:Kn) (kv:Value) (w:World) (hF:FrW w k.l kv) (hl:k.l.length≤10000) (hi:(zaf k.l).length≤10000) :
   Calls Tryz.prog 112 #[knV k.star kv] w fun e w'=>∃ kv',e=.returned (knV k.star kv')∧FrFresh w' w.heap.size k.l kv'∧Below w.heap.size w w':=by
 have HOK:=y39h hF.fr_ok
 obtain ⟨U,ok,ck,bk,okk,rfl,hF⟩:=hF
 have HF:=y39h hF
 have HFL:=y39h hi
 have HLL:=y39h hl
 have AX:Hid (KnX w k (.slice ok k.l.length ck) ((w.alloc (.cells (knA k.star (.slice ok k.l.length ck)) 38)).alloc (.cells knZ 38))):=y39h ⟨(Own.new w (knA k.star (.slice ok k.l.length ck)) 38).alloc (.cells knZ 38),Own.newAt (w.alloc (.cells (knA k.star (.slice ok k.l.length ck)) 38)) knZ 38 (b:=w.heap.size + 1) (by simp),((Below.refl w.heap.size w).alloc (Nat.le_refl _) (.cells (knA k.star (.slice ok k.l.length ck)) 38)).alloc (by simp) (.cells knZ 38)⟩
 clear hF hi hl
 go_enter Tryz.func112,Tryz.ntmps112
 go_upto_region 1 with fail
 revert AX
 generalize World.alloc (World.alloc _ _) _=X1
 intro AX
 have CF9:=y39h (znx k.l U ok ck bk okk X1 (HF.out.later AX.out.b (Nat.le_refl _)) (by have:=HLL.out;omega))
 have l1:=AX.out.a.cell
 have f1:=AX.out.a.free
 have z1:=AX.out.a.lt
 go_upto_region 2 with (go_at_call 175;refine CF9.out.mono ?_;rintro e w9 ⟨v9,rfl,hr9,hb9⟩;have HR9:=y39h hr9;obtain ⟨o9,c9,g,rfl,r1,r2,r3⟩:=zaq hr9;clear l1 f1 z1 hr9;have A9:=y39h (AX.out.a.later hb9);have HB9:=y39h hb9;have HG:=y39h r3;have l1:=A9.out.cell;have f1:=A9.out.free;have z1:=A9.out.lt;clear hb9 r3)
 unfold maxLen at r2
 clear l1 f1 z1 CF9 A9
 have AY:=y39h (AX.out.setK (.slice o9 k.l.length c9))
 have AS:Hid (AgS (X1.setCell ⟨w.heap.size,8,none⟩ (.slice o9 k.l.length c9)) X1.heap.size k.l U (.slice o9 k.l.length c9) g 0 U (w9.setCell ⟨w.heap.size,8,none⟩ (.slice o9 k.l.length c9))):=y39h ⟨by simp [World.setCell],zre HB9.out (p:=⟨w.heap.size,8,none⟩) AX.out.a.lt (Nat.le_refl _) _,ownsRow_setCell_below HR9.out AX.out.a.lt _,fun i f hi=>absurd hi (by omega),fun _ _=>rfl⟩
 have zX:=y39h (show w.heap.size + 2≤X1.heap.size from by have:=AX.out.t.lt;omega)
 clear AX HB9 HR9
 revert AY AS
 generalize World.setCell w9 _ _=W2
 generalize World.setCell X1 _ _=X
 intro AY AS
 generalize X1.heap.size=B at *
 have aw:=AY.out.a.below AS.out.b (by have:=zX.out;omega)
 have l1:=aw.cell
 have z1:=aw.lt
 clear aw
 generalize hlen:k.l.length=len at *
 have HLEN:=y39h hlen
 clear hlen
 go_wp2_with fail
 go_loopw [12] (fun i wr=>z0z X B k.l len U (.slice o9 len c9) g i wr) (fun i _=>len - (intOf i).toNat)
 case atStart=>exact ⟨0,U,Nat.zero_le _,rfl,AS⟩
 case round =>
   clear AS l1 z1
   obtain ⟨j,U',hk,rfl,AS⟩:=hrel
   have OX0:=y39h (AY.out.a.below AS.out.b (by have:=zX.out;omega))
   by_cases hlt:j < len
   · obtain ⟨f,hf⟩:∃ f,k.l[j]?=some f:=⟨_,List.getElem?_eq_getElem (by rw [HLEN.out];exact hlt)⟩
     obtain ⟨rfl,_,_⟩:=HG.out (by omega)
     have hrow:=AS.out.row
     rw [HLEN.out] at hrow
     have zg:B≤g∧g < wr.heap.size:=hrow.lt g rfl
     have hT:=(HF.out.ids j f hf).later (AY.out.b.trans (AS.out.b.mono (by have:=zX.out;omega))) (Nat.le_refl _)
     obtain ⟨ou,cu,hU⟩:=hT.val
     have hUk:U' j=.slice ou f.ids.length cu:=(AS.out.left j (Nat.le_refl _)).trans hU
     obtain ⟨c0,c1,c2,c3',c4',c5',c6,c7,c8⟩:=zb6 (w:=wr) (f:=f) (u:=U' j) (b:=g) (o:=j * 9) (fun i z hz=>by
       have hj:i < 9:=(List.getElem?_eq_some_iff.1 hz).1
       rw [hrow.cellAt (j * 9 + i) (by omega),zcz _ _ _ _ _ hf _ hj,Nat.zero_add]
       exact hz)
     rw [hUk] at c0
     rw [hU] at hT
     have hlen9:=zpz (List.mem_of_getElem? hf)
     have hfl:=HFL.out
     have CC:=y39h (znz f.ids (.slice ou f.ids.length cu) (wr.alloc (.cells #[.slice ou f.ids.length cu,.int .i64 (f.v 0),.int .i64 (f.v 1),.int .i64 (f.v 2),.int .i64 (f.v 3),.int .i64 (f.v 4),.int .i64 (f.v 5),.int .i64 (f.v 6),.int .i64 (f.v 7)] 162)).drew (hT.later (((Below.refl wr.heap.size wr).alloc (Nat.le_refl _) _).drew) (Nat.le_refl _)) (by omega))
     have OX:=y39h (OX0.out.alloc (.cells #[.slice ou f.ids.length cu,.int .i64 (f.v 0),.int .i64 (f.v 1),.int .i64 (f.v 2),.int .i64 (f.v 3),.int .i64 (f.v 4),.int .i64 (f.v 5),.int .i64 (f.v 6),.int .i64 (f.v 7)] 162))
     have OQ:=y39h (Own.new wr #[.slice ou f.ids.length cu,.int .i64 (f.v 0),.int .i64 (f.v 1),.int .i64 (f.v 2),.int .i64 (f.v 3),.int .i64 (f.v 4),.int .i64 (f.v 5),.int .i64 (f.v 6),.int .i64 (f.v 7)] 162)
     have HROW:=y39h hrow
     have HF2:=y39h hf
     have HUK:=y39h hUk
     have hg1:w.heap.size ≠ g:=by have:=zX.out;omega
     have hg3:wr.heap.size ≠ g:=by omega
     have zg1:=zg.2
     clear hT hU hUk hlen9 hfl hrow
     go_upto_region 5 with fail
     clear c0 c1 c2 c3' c4' c5' c6 c7 c8
     go_region_held3 (fun w'=>(∀ o,w'.cell? ⟨w.heap.size,o,none⟩=(knA k.star (.slice (some ⟨g,0,none⟩) len c9):Array Value)[o]?)∧(∀ o,w'.cell? ⟨wr.heap.size,o,none⟩=(#[.slice ou f.ids.length cu,.int .i64 (f.v 0),.int .i64 (f.v 1),.int .i64 (f.v 2),.int .i64 (f.v 3),.int .i64 (f.v 4),.int .i64 (f.v 5),.int .i64 (f.v 6),.int .i64 (f.v 7)]:Array Value)[o]?)) (first | with_reducible exact ⟨OX8.out.cell,OQ8.out.cell⟩ | with_reducible exact ⟨(OX8.out.setFar ⟨g,j * 9,none⟩ _ hg1).cell,(OQ8.out.setFar ⟨g,j * 9,none⟩ _ hg3).cell⟩ | with_reducible exact ⟨OX.out.cell,OQ.out.cell⟩ | with_reducible exact ⟨OX.out.drew.cell,OQ.out.drew.cell⟩) (first
       | (go_simp;go_at_call 176;(with_reducible refine CC.out.mono ?_);rintro e w8 ⟨v8,rfl,hL8,hb8⟩;obtain ⟨o8,c8,rfl⟩:=hL8.val;have OX8:=y39h (OX.out.drew.later hb8);have OQ8:=y39h (OQ.out.drew.later hb8);have hb9:Below wr.heap.size wr w8:=(((Below.refl wr.heap.size wr).alloc (Nat.le_refl _) _).drew).trans (hb8.mono (by simp));have hrow8:=zau HROW.out hb9;have fg:=zha hrow8 (j * 9);have zg8:=(hrow8.lt g rfl).2;have e0:=z1l hrow8 HLEN.out HF2.out;rw [HUK.out] at e0;clear hrow8;have HL8:=y39h hL8;have HB8:=y39h hb8;clear hL8 hb8 hb9)
       | fail)
     have KEY:Hid (AgS X B k.l U (.slice (some ⟨g,0,none⟩) len c9) g (j + 1) (updU U' j (.slice o8 f.ids.length c8)) (w8.setCell ⟨g,j * 9,none⟩ (.slice o8 f.ids.length c8))):=y39h (AgS.step AS.out HLEN.out HF2.out HL8.out HB8.out)
     clear e0 fg zg8 OX8 OQ8 HL8 HB8 CC OX OQ AS OX0
     revert KEY
     generalize World.setCell w8 _ _=W5
     intro KEY
     go_wp2_with fail
     go_roundw
     case rel=>exact ⟨j + 1,_,by omega,by go_num,KEY⟩
     case measure=>simp [intOf];omega
   · have e:j=len:=by omega
     subst e
     have hrow:=AS.out.row
     have FF:=y39h ((zrr hrow (fun i f hf=>AS.out.done i f (by have:=posA hf;have:=HLEN.out;omega) hf) (fun h0=>Nat.le_succ_of_le (HG.out (by have:=HLEN.out;omega)).2.1) HOK.out).mono zX.out)
     have AW:=AY.out.later (AS.out.e ▸ AS.out.b)
     have HK:=y39h (AW.fin FF.out (knA k.star (.slice o9 j c9)).toList rfl)
     have OAR:=y39h AW.a
     have OTR:=y39h AW.t
     clear AY AW FF AS OX0 hrow
     go_wp2_with (first | (refine wpList_load_mid (by rfl) 38 _ (by rfl) w.heap.size 0 (by rfl) (knA k.star (.slice o9 j c9)).toList _ OAR.out.range Tryz.underlying38 (by rfl) (by kernel_rfl) ?_) | (refine wpList_store_mid (by rfl) 38 _ _ (by rfl) (w.heap.size + 1) 0 (knA k.star (.slice o9 j c9)) (by rfl) (by rfl) (OTR.out.there (by rfl)) (by kernel_rfl) (by simp [Value.oneCell']) ?_) | fail)
     revert HK
     generalize World.setCells _ _ _ _=WW
     intro HK
     exact zbm (by rfl) (by rfl) (l:=(knA k.star (.slice o9 j c9)).toList) HK.out.1.range Tryz.underlying38 (by rfl) (by kernel_rfl) rfl ⟨_,rfl,HK.out.2⟩
end Go.Proofs.YtodfhabkdaiopaaGreat
namespace Go.Proofs.YtodfhabkdaiopaaGreat
set_option linter.unusedVariables false
set_option linter.unusedSimpArgs false
set_option maxRecDepth 100000
set_option maxHeartbeats 8000000
open Go Go.RowKit
def zbc (s:St) (x:Itm):Bool:=mayT x && (!(decide (x.r=s.r)) || decide (x.c≤s.count))
def newB (s:St) (x:Itm):Bool:=!(zae s x.id).2 || behT x (zae s x.id).1
def preR (s:St) (x:Itm):St:=⟨s.r,s.f,s.store,s.out,⟨s.k.star,(zah (zal s.k x.id x.r x.c)).l⟩,s.count,max s.clock x.st,s.epoch⟩
def zcj (s:St) (x:Itm):Bool:=newB s x && (hasT s.f x && (!(zae s x.id).2 && decide (s.store.length + s.out.length=40)))
def za8 (s:St) (x:Itm):Int:=if zbc s x=true then (if hasK s.k x.id x.r x.c=true then 0 else (if zcj s x=true then 4 else 0)) else 1
def zax (s:St) (x:Itm):St :=
 if zbc s x=true then (if hasK s.k x.id x.r x.c=true then s else (if zcj s x=true then s else (if newB s x=true then zbv (preR s x) x false else preR s x))) else s
def zbz (s:St) (id:ByteArray):St:=⟨s.r,s.f,s.store.filter (neB id),s.out,s.k,s.count,s.clock,s.epoch⟩
def zhg (x:Itm) (r c:Int):Itm:=⟨x.id,r,c,x.st,x.kd,x.num,x.x,x.y,x.d⟩
def zcs (s:St) (id:ByteArray) (r c:Int):Kn:=⟨s.k.star,(zah (zal s.k id r c)).l⟩
def zb0 (s:St) (id:ByteArray) (r c r' c':Int):St :=
 if (getI s.store id).2=true∧(getI s.store id).1.r=r∧(getI s.store id).1.c=c then
   (if verB r' c'=true∧(r' ≠ s.r ∨ c'≤s.count) then ⟨s.r,s.f,s.store.filter (neB id),s.out,zcs s id r' c',s.count,s.clock,s.epoch⟩ else zbz s id)
 else s
theorem OwnI.sure {w:World} {B:Nat} {l:List Itm} {v:Value} (h:OwnI w B l v) (hok:∀ i∈l,i.id.size≤maxLen∧i.kd.size≤maxLen):Sure (fun b=>b < B) w fun w=>Row 8 ic w l v:=(h.rowF hok).sure
theorem zy8 (s:St) (fv sv ov kv v:Value):zcb (stA s fv sv ov kv) 1 [.int .i64 s.f.op,.string s.f.text,.int .i64 s.f.n,.complex .f64 s.f.x s.f.y,v]=stA s v sv ov kv:=by simp [zcb]
theorem zy9 (s:St) (A:Nat→Int) (fv sv ov kv v:Value):zcb (stA s fv sv ov kv) 8 (knA A v).toList=stA ⟨s.r,s.f,s.store,s.out,⟨A,s.k.l⟩,s.count,s.clock,s.epoch⟩ fv sv ov v:=by simp [zcb]
theorem zfq (s:St) (A:Nat→Int) (L:List Fr) (fv sv ov kv v:Value):zcb (stA s fv sv ov kv) 8 (knA A v).toList=stA ⟨s.r,s.f,s.store,s.out,⟨A,L⟩,s.count,s.clock,s.epoch⟩ fv sv ov v:=by simp [zcb]
theorem zel (s:St) (fv sv ov kv:Value) (w:World) (hS:StW w s fv sv ov kv) (hf:s.f.size≤1000) (h1:s.store.length≤10000) (h2:s.out.length≤10000) (hl:s.k.l.length≤10000) (hi:(zaf s.k.l).length≤10000) :
   Calls Tryz.prog 58 #[stV s fv sv ov kv] w fun e w'=>∃ fv' sv' ov' kv',e=.returned (stV s fv' sv' ov' kv')∧Sure (fun b=>b < w.heap.size) w' (fun w=>StW w s fv' sv' ov' kv')∧Below w.heap.size w w':=by
 obtain ⟨of_,cf,rfl⟩:=zao hS.lf
 obtain ⟨os,cs,rfl⟩:=hS.ls.val
 obtain ⟨oo,co,rfl⟩:=hS.lo.val
 obtain ⟨ok,ck,rfl⟩:=hS.lk.val
 have OA:=y39h ((Own.new w (stA s (.slice of_ s.f.kids.length cf) (.slice os s.store.length cs) (.slice oo s.out.length co) (.slice ok s.k.l.length ck)) 40).alloc (.cells stZ.toArray 40))
 have OT:=y39h (Own.newAt (w.alloc (.cells (stA s (.slice of_ s.f.kids.length cf) (.slice os s.store.length cs) (.slice oo s.out.length co) (.slice ok s.k.l.length ck)) 40)) stZ.toArray 40 (b:=w.heap.size + 1) (by simp))
 have BEL:=y39h (((Below.refl w.heap.size w).alloc (Nat.le_refl _) (.cells (stA s (.slice of_ s.f.kids.length cf) (.slice os s.store.length cs) (.slice oo s.out.length co) (.slice ok s.k.l.length ck)) 40)).alloc (by simp) (.cells stZ.toArray 40))
 have HS:=y39h hS
 have HO1:=y39h hS.ls.oks
 have HO2:=y39h hS.lo.oks
 have CF:=fun w' h=>y39h (zdz s.f (.slice of_ s.f.kids.length cf) w' h hf)
 have C1:=fun w' h=>y39h (zh1 s.store (.slice os s.store.length cs) w' h (by omega))
 have C2:=fun w' h=>y39h (zh1 s.out (.slice oo s.out.length co) w' h (by omega))
 have CK:=fun w' h=>y39h (zm9 s.k (.slice ok s.k.l.length ck) w' h hl hi)
 clear hS hf h1 h2 hl hi
 go_enter Tryz.func58,Tryz.ntmps58
 go_upto_region 1 with fail
 revert OA OT BEL
 generalize World.alloc (World.alloc _ _) _=W1
 intro OA OT BEL
 refine zf9 (T:=fun k=>k=w.heap.size) (D:=fun k=>k == 13 || k == 15 || k == 17 || k == 19) (by kernel_rfl) (fun wd hbd=>?_)
 replace OA:=y39h (OA.out.later hbd)
 replace OT:=y39h (OT.out.later hbd)
 replace BEL:=y39h (BEL.out.trans (Below.mono hbd BEL.out.size))
 clear hbd
 refine zat (i:=0) (v:=?_) rfl (by kernel_rfl) (by kernel_rfl) (by kernel_rfl) (fun _ _ _ h=>h) (Or.inl ⟨by rfl,?_⟩) ?_
 rotate_left 1
 · (intro wL hL;go_simp;try with_reducible rfl)
 try simp only [Act.put,y39a,y39b,y39c,y39d,y39e,y39f]
 refine zcx (i:=1) (v:=.agg #[.int .i64 s.f.op,.string s.f.text,.int .i64 s.f.n,.complex .f64 s.f.x s.f.y,(.slice of_ s.f.kids.length cf)]) rfl (by kernel_rfl) (by kernel_rfl) (by kernel_rfl) (by kernel_rfl) (fun _ _ _ h=>h) (Or.inl ⟨by rfl,fun wL hL=>zc9 32 _ rfl (w.heap.size) 1 (by rfl) (#[.int .i64 s.f.op,.string s.f.text,.int .i64 s.f.n,.complex .f64 s.f.x s.f.y,(.slice of_ s.f.kids.length cf)]:Array Value).toList _ ((OA.out.later hL).part 1 _ (by rfl)) Tryz.underlying32 (by rfl) (by kernel_rfl)⟩) ?_
 try simp only [Act.put,y39a,y39b,y39c,y39d,y39e,y39f]
 refine zat (i:=3) (v:=?_) rfl (by kernel_rfl) (by kernel_rfl) (by kernel_rfl) (fun _ _ _ h=>h) (Or.inl ⟨by rfl,?_⟩) ?_
 rotate_left 1
 · (intro wL hL;go_simp;try with_reducible rfl)
 try simp only [Act.put,y39a,y39b,y39c,y39d,y39e,y39f]
 refine zcx (i:=4) (v:=?_) rfl (by kernel_rfl) (by kernel_rfl) (by kernel_rfl) (by kernel_rfl) (fun _ _ _ h=>h) (Or.inl ⟨by rfl,?_⟩) ?_
 rotate_left 1
 · (intro wL hL;have lL:=(OA.out.later hL).cell;have zL:=(OA.out.later hL).lt;go_simp;try with_reducible rfl)
 try simp only [Act.put,y39a,y39b,y39c,y39d,y39e,y39f]
 refine zat (i:=6) (v:=?_) rfl (by kernel_rfl) (by kernel_rfl) (by kernel_rfl) (fun _ _ _ h=>h) (Or.inl ⟨by rfl,?_⟩) ?_
 rotate_left 1
 · (intro wL hL;go_simp;try with_reducible rfl)
 try simp only [Act.put,y39a,y39b,y39c,y39d,y39e,y39f]
 refine zcx (i:=7) (v:=?_) rfl (by kernel_rfl) (by kernel_rfl) (by kernel_rfl) (by kernel_rfl) (fun _ _ _ h=>h) (Or.inl ⟨by rfl,?_⟩) ?_
 rotate_left 1
 · (intro wL hL;have lL:=(OA.out.later hL).cell;have zL:=(OA.out.later hL).lt;go_simp;try with_reducible rfl)
 try simp only [Act.put,y39a,y39b,y39c,y39d,y39e,y39f]
 refine zat (i:=9) (v:=?_) rfl (by kernel_rfl) (by kernel_rfl) (by kernel_rfl) (fun _ _ _ h=>h) (Or.inl ⟨by rfl,?_⟩) ?_
 rotate_left 1
 · (intro wL hL;go_simp;try with_reducible rfl)
 try simp only [Act.put,y39a,y39b,y39c,y39d,y39e,y39f]
 refine zcx (i:=10) (v:=.agg (knA s.k.star (.slice ok s.k.l.length ck))) rfl (by kernel_rfl) (by kernel_rfl) (by kernel_rfl) (by kernel_rfl) (fun _ _ _ h=>h) (Or.inl ⟨by rfl,fun wL hL=>zc9 38 _ rfl (w.heap.size) 8 (by rfl) ((knA s.k.star (.slice ok s.k.l.length ck)):Array Value).toList _ ((OA.out.later hL).part 8 _ (by rfl)) Tryz.underlying38 (by rfl) (by kernel_rfl)⟩) ?_
 try simp only [Act.put,y39a,y39b,y39c,y39d,y39e,y39f]
 refine zbw (i:=2) (by kernel_rfl) ?_
 have z2OA:=OA.out.lt
 have z2OT:=OT.out.lt
 refine zcn (by rfl) (by rfl) (fun K hK=>?_)
 try simp only [y39a,y39b,y39c]
 (go_simp;go_at_call 56;(with_reducible refine (CF _ (HS.out.lf.later BEL.out (Nat.le_refl _))).out.mono ?_);rintro e wc ⟨v3,rfl,hl3,hb⟩;obtain ⟨o3,c3,rfl⟩:=zao hl3.lp;have SF:=y39h hl3.sure;clear hl3)
 try go_wp2_with fail
 refine hK.out _ _ (fun _=>hb) (But.of hb) ?_
 clear hK K
 replace OA:=y39h (OA.out.later hb)
 replace OT:=y39h (OT.out.later hb)
 replace BEL:=y39h (BEL.out.trans (Below.mono hb BEL.out.size))
 clear hb
 try simp only [Act.put,y39a,y39b,y39c,y39d,y39e,y39f]
 refine zat (i:=12) (v:=?_) rfl (by kernel_rfl) (by kernel_rfl) (by kernel_rfl) (fun _ _ _ h=>h) (Or.inl ⟨by rfl,?_⟩) ?_
 rotate_left 1
 · (intro wL hL;go_simp;try with_reducible rfl)
 try simp only [Act.put,y39a,y39b,y39c,y39d,y39e,y39f]
 refine zbw (i:=5) (by kernel_rfl) ?_
 have z5OA:=OA.out.lt
 have z5OT:=OT.out.lt
 refine zcn (by rfl) (by rfl) (fun K hK=>?_)
 try simp only [y39a,y39b,y39c]
 (go_simp;go_at_call 133;(with_reducible refine (C1 _ (HS.out.ls.later BEL.out)).out.mono ?_);rintro e wc ⟨v4,rfl,ho4,hb⟩;obtain ⟨o4,c4,rfl⟩:=ho4.len;have SS:=y39h (ho4.sure HO1.out);clear ho4)
 try go_wp2_with fail
 refine hK.out _ _ (fun _=>hb) (But.of hb) ?_
 clear hK K
 replace OA:=y39h (OA.out.later hb)
 replace OT:=y39h (OT.out.later hb)
 replace BEL:=y39h (BEL.out.trans (Below.mono hb BEL.out.size))
 replace SF:=y39h (SF.out.later hb)
 clear hb
 try simp only [Act.put,y39a,y39b,y39c,y39d,y39e,y39f]
 refine zbw (i:=8) (by kernel_rfl) ?_
 have z8OA:=OA.out.lt
 have z8OT:=OT.out.lt
 refine zcn (by rfl) (by rfl) (fun K hK=>?_)
 try simp only [y39a,y39b,y39c]
 (go_simp;go_at_call 133;(with_reducible refine (C2 _ (HS.out.lo.later BEL.out)).out.mono ?_);rintro e wc ⟨v5,rfl,ho5,hb⟩;obtain ⟨o5,c5,rfl⟩:=ho5.len;have SO:=y39h (ho5.sure HO2.out);clear ho5)
 try go_wp2_with fail
 refine hK.out _ _ (fun _=>hb) (But.of hb) ?_
 clear hK K
 replace OA:=y39h (OA.out.later hb)
 replace OT:=y39h (OT.out.later hb)
 replace BEL:=y39h (BEL.out.trans (Below.mono hb BEL.out.size))
 replace SF:=y39h (SF.out.later hb)
 replace SS:=y39h (SS.out.later hb)
 clear hb
 try simp only [Act.put,y39a,y39b,y39c,y39d,y39e,y39f]
 refine zbw (i:=11) (by kernel_rfl) ?_
 have z11OA:=OA.out.lt
 have z11OT:=OT.out.lt
 refine zcn (by rfl) (by rfl) (fun K hK=>?_)
 try simp only [y39a,y39b,y39c]
 (go_simp;go_at_call 112;(with_reducible refine (CK _ (HS.out.lk.later BEL.out (Nat.le_refl _))).out.mono ?_);rintro e wc ⟨v6,rfl,hk6,hb⟩;obtain ⟨o6,c6,rfl⟩:=hk6.fr.val;have SK:=y39h hk6.sure;clear hk6)
 try go_wp2_with fail
 refine hK.out _ _ (fun _=>hb) (But.of hb) ?_
 clear hK K
 replace OA:=y39h (OA.out.later hb)
 replace OT:=y39h (OT.out.later hb)
 replace BEL:=y39h (BEL.out.trans (Below.mono hb BEL.out.size))
 replace SF:=y39h (SF.out.later hb)
 replace SS:=y39h (SS.out.later hb)
 replace SO:=y39h (SO.out.later hb)
 clear hb
 try simp only [Act.put,y39a,y39b,y39c,y39d,y39e,y39f]
 refine zbw (i:=13) (by kernel_rfl) ?_
 refine zgc (by rfl) (by rfl) 32 _ _ (by rfl) (w.heap.size) (1) #[.int .i64 s.f.op,.string s.f.text,.int .i64 s.f.n,.complex .f64 s.f.x s.f.y,(.slice o3 s.f.kids.length c3)] (by rfl) (by rfl) OA.out (by simp) (by kernel_rfl) (by simp [Value.oneCell']) (by rfl) (rfl) (fun ws hs ho=>?_)
 replace OT:=y39h (OT.out.stored hs (by omega))
 replace BEL:=y39h (hs.bel (by omega) BEL.out)
 replace SF:=y39h (SF.out.stored hs (by show w.heap.size < _;omega))
 replace SS:=y39h (SS.out.stored hs (by show w.heap.size < _;omega))
 replace SO:=y39h (SO.out.stored hs (by show w.heap.size < _;omega))
 replace SK:=y39h (SK.out.stored hs (by show w.heap.size < _;omega))
 replace OA:=y39h ho
 clear hs ho
 replace OA:=y39h (zy8 s (.slice of_ s.f.kids.length cf) (.slice os s.store.length cs) (.slice oo s.out.length co) (.slice ok s.k.l.length ck) (.slice o3 s.f.kids.length c3) ▸ OA.out)
 try simp only [Act.put,y39a,y39b,y39c,y39d,y39e,y39f]
 refine zat (i:=14) (v:=?_) rfl (by kernel_rfl) (by kernel_rfl) (by kernel_rfl) (fun _ _ _ h=>h) (Or.inl ⟨by rfl,?_⟩) ?_
 rotate_left 1
 · (intro wL hL;go_simp;try with_reducible rfl)
 try simp only [Act.put,y39a,y39b,y39c,y39d,y39e,y39f]
 refine zbw (i:=15) (by kernel_rfl) ?_
 refine zdl (by rfl) (by rfl) (w.heap.size) (6) ((.slice o4 s.store.length c4)) OA.out (by have lL:=OA.out.cell;have fL:=OA.out.free;have zL:=OA.out.lt;go_simp;try rfl) (by rfl) (rfl) (fun ws hs ho=>?_)
 replace OT:=y39h (OT.out.stored hs (by omega))
 replace BEL:=y39h (hs.bel (by omega) BEL.out)
 replace SF:=y39h (SF.out.stored hs (by show w.heap.size < _;omega))
 replace SS:=y39h (SS.out.stored hs (by show w.heap.size < _;omega))
 replace SO:=y39h (SO.out.stored hs (by show w.heap.size < _;omega))
 replace SK:=y39h (SK.out.stored hs (by show w.heap.size < _;omega))
 replace OA:=y39h ho
 clear hs ho
 replace OA:=y39h (show Own _ w.heap.size (stA s (.slice o3 s.f.kids.length c3) (.slice o4 s.store.length c4) (.slice oo s.out.length co) (.slice ok s.k.l.length ck)) 40 from OA.out)
 try simp only [Act.put,y39a,y39b,y39c,y39d,y39e,y39f]
 refine zat (i:=16) (v:=?_) rfl (by kernel_rfl) (by kernel_rfl) (by kernel_rfl) (fun _ _ _ h=>h) (Or.inl ⟨by rfl,?_⟩) ?_
 rotate_left 1
 · (intro wL hL;go_simp;try with_reducible rfl)
 try simp only [Act.put,y39a,y39b,y39c,y39d,y39e,y39f]
 refine zbw (i:=17) (by kernel_rfl) ?_
 refine zdl (by rfl) (by rfl) (w.heap.size) (7) ((.slice o5 s.out.length c5)) OA.out (by have lL:=OA.out.cell;have fL:=OA.out.free;have zL:=OA.out.lt;go_simp;try rfl) (by rfl) (rfl) (fun ws hs ho=>?_)
 replace OT:=y39h (OT.out.stored hs (by omega))
 replace BEL:=y39h (hs.bel (by omega) BEL.out)
 replace SF:=y39h (SF.out.stored hs (by show w.heap.size < _;omega))
 replace SS:=y39h (SS.out.stored hs (by show w.heap.size < _;omega))
 replace SO:=y39h (SO.out.stored hs (by show w.heap.size < _;omega))
 replace SK:=y39h (SK.out.stored hs (by show w.heap.size < _;omega))
 replace OA:=y39h ho
 clear hs ho
 replace OA:=y39h (show Own _ w.heap.size (stA s (.slice o3 s.f.kids.length c3) (.slice o4 s.store.length c4) (.slice o5 s.out.length c5) (.slice ok s.k.l.length ck)) 40 from OA.out)
 try simp only [Act.put,y39a,y39b,y39c,y39d,y39e,y39f]
 refine zat (i:=18) (v:=?_) rfl (by kernel_rfl) (by kernel_rfl) (by kernel_rfl) (fun _ _ _ h=>h) (Or.inl ⟨by rfl,?_⟩) ?_
 rotate_left 1
 · (intro wL hL;go_simp;try with_reducible rfl)
 try simp only [Act.put,y39a,y39b,y39c,y39d,y39e,y39f]
 refine zbw (i:=19) (by kernel_rfl) ?_
 refine zgc (by rfl) (by rfl) 38 _ _ (by rfl) (w.heap.size) (8) (knA s.k.star (.slice o6 s.k.l.length c6)) (by rfl) (by rfl) OA.out (by simp) (by kernel_rfl) (by simp [Value.oneCell']) (by rfl) (rfl) (fun ws hs ho=>?_)
 replace OT:=y39h (OT.out.stored hs (by omega))
 replace BEL:=y39h (hs.bel (by omega) BEL.out)
 replace SF:=y39h (SF.out.stored hs (by show w.heap.size < _;omega))
 replace SS:=y39h (SS.out.stored hs (by show w.heap.size < _;omega))
 replace SO:=y39h (SO.out.stored hs (by show w.heap.size < _;omega))
 replace SK:=y39h (SK.out.stored hs (by show w.heap.size < _;omega))
 replace OA:=y39h ho
 clear hs ho
 replace OA:=y39h (zy9 s s.k.star (.slice o3 s.f.kids.length c3) (.slice o4 s.store.length c4) (.slice o5 s.out.length c5) (.slice ok s.k.l.length ck) (.slice o6 s.k.l.length c6) ▸ OA.out)
 try simp only [Act.put,y39a,y39b,y39c,y39d,y39e,y39f]
 refine zg2 (by kernel_rfl) ?_ _
 have MO:∀ {B:Nat},w.heap.size + 1 < B→∀ b,b < w.heap.size + 2→b < B:=fun h b hb=>by omega
 have SX:Hid (Sure (fun b=>b < w.heap.size + 2) _ (fun w=>StW w s (.slice o3 s.f.kids.length c3) (.slice o4 s.store.length c4) (.slice o5 s.out.length c5) (.slice o6 s.k.l.length c6))):=y39h (fun w2 h2=>⟨SF.out w2 (h2.mono (fun b hb=>by have hb':b < w.heap.size + 2:=hb;show b < _;omega)),SS.out w2 (h2.mono (fun b hb=>by have hb':b < w.heap.size + 2:=hb;show b < _;omega)),SO.out w2 (h2.mono (fun b hb=>by have hb':b < w.heap.size + 2:=hb;show b < _;omega)),SK.out w2 (h2.mono (fun b hb=>by have hb':b < w.heap.size + 2:=hb;show b < _;omega))⟩)
 clear SF SS SO SK MO
 have HK:=y39h (And.intro (OT.out.sets (stA s (.slice o3 s.f.kids.length c3) (.slice o4 s.store.length c4) (.slice o5 s.out.length c5) (.slice o6 s.k.l.length c6)).toList (by rfl)) (And.intro (StoreR.sets (w.heap.size + 1) (stA s (.slice o3 s.f.kids.length c3) (.slice o4 s.store.length c4) (.slice o5 s.out.length c5) (.slice o6 s.k.l.length c6)).toList ws 0) (SX.out.stored (StoreR.sets (w.heap.size + 1) (stA s (.slice o3 s.f.kids.length c3) (.slice o4 s.store.length c4) (.slice o5 s.out.length c5) (.slice o6 s.k.l.length c6)).toList ws 0) (Nat.lt_succ_self _))))
 go_wp2_with (first
   | (refine wpList_load_mid (by rfl) 40 _ (by rfl) w.heap.size 0 (by rfl) (stA s (.slice o3 s.f.kids.length c3) (.slice o4 s.store.length c4) (.slice o5 s.out.length c5) (.slice o6 s.k.l.length c6)).toList _ (by exact OA.out.part 0 _ (by rfl)) Tryz.underlying40 (by rfl) (by kernel_rfl) ?_)
   | (refine wpList_store_mid (by rfl) 40 _ _ (by rfl) (w.heap.size + 1) 0 (stA s (.slice o3 s.f.kids.length c3) (.slice o4 s.store.length c4) (.slice o5 s.out.length c5) (.slice o6 s.k.l.length c6)) (by rfl) (by rfl) (by exact OT.out.there (by rfl)) (by kernel_rfl) (by simp [Value.oneCell']) ?_)
   | fail)
 have BE:=y39h (HK.out.2.1.bel (Nat.le_succ _) BEL.out)
 clear OA OT SX BEL
 revert HK BE
 generalize World.setCells _ _ _ _=WW
 intro HK BE
 exact zbm (by rfl) (by rfl) (l:=(stA s (.slice o3 s.f.kids.length c3) (.slice o4 s.store.length c4) (.slice o5 s.out.length c5) (.slice o6 s.k.l.length c6)).toList) HK.out.1.range Tryz.underlying40 (by rfl) (by kernel_rfl) rfl ⟨_,_,_,_,rfl,HK.out.2.2.mono (fun b hb=>by have hb':b < w.heap.size:=hb;show b < _;omega),BE.out⟩
theorem zo0 {x:Itm}:∀ {l:List Itm},(∀ i∈l,i.id ≠ x.id)→(l.filter (fun i=>lsB i.id x.id)).length + (l.filter (fun i=>gtB i.id x.id)).length=l.length
 | [],_=>rfl
 | a :: l,h=>by
   have ih:=zo0 (x:=x) (l:=l) fun i hi=>h i (by simp [hi])
   have hne:(a.id.toList == x.id.toList)=false:=by
     rw [beq_eq_false_iff_ne]
     intro e
     exact h a (by simp) (zio e)
   have hg:gtB a.id x.id=!lsB a.id x.id:=by unfold gtB lsB;rw [hne,Bool.or_false]
   cases hl:lsB a.id x.id
   · rw [hl] at hg
     simp only [List.filter_cons,hl,hg,Bool.not_false,if_true,List.length_cons,Bool.false_eq_true,if_false]
     omega
   · rw [hl] at hg
     simp only [List.filter_cons,hl,hg,Bool.not_true,if_true,List.length_cons,Bool.false_eq_true,if_false]
     omega
theorem zjo {f:Itm→Itm→Bool}:∀ (b:List Itm) {a:List Itm},zap b→(∀ i∈b,∀ j∈a,j.id ≠ i.id)→(zar f a b).length=a.length + b.length
 | [],_,_,_=>rfl
 | y :: b,a,hb,hd=>by
   have hstep:zcm f a y=putI a y:=by
     unfold zcm
     rw [zc0 (fun j hj=>hd y (by simp) j hj)]
     rfl
   have hlen:(putI a y).length=a.length + 1:=by
     have:=zo0 (x:=y) (l:=a) fun i hi=>hd y (by simp) i hi
     unfold putI
     simp only [List.length_append,List.length_cons,List.length_nil]
     omega
   have e:zar f a (y :: b)=zar f (putI a y) b:=by unfold zar;rw [List.foldl_cons,hstep]
   rw [e,zjo b (riseI_cons.1 hb).2 (fun i hi j hj=>by
     rcases zed hj with h | h
     · exact hd i (by simp [hi]) j h
     · rw [h];exact zfd ((riseI_cons.1 hb).1 i hi)),hlen,List.length_cons]
   omega
end Go.Proofs.YtodfhabkdaiopaaGreat
