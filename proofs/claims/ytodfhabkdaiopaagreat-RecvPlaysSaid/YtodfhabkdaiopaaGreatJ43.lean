/- Joined: RcvI. -/
import Derived.Test.YtodfhabkdaiopaaGreatJ42
import Derived.Test.YtodfhabkdaiopaaGreatJ39
import Derived.Test.YtodfhabkdaiopaaGreatJ23
import Derived.Test.YtodfhabkdaiopaaGreatJ30
import Derived.Test.YtodfhabkdaiopaaGreatJ35
namespace Go.Proofs.YtodfhabkdaiopaaGreat
set_option linter.unusedVariables false
set_option linter.unusedSimpArgs false
set_option maxRecDepth 100000
set_option maxHeartbeats 8000000
open Go Go.RowKit
abbrev y43a:=@List.getElem_toArray
abbrev y43b:=@List.getElem_cons_zero
abbrev y43c:=@List.getElem_cons_succ
abbrev y43d:=@List.setIfInBounds_toArray
abbrev y43e:=@List.set_cons_zero
abbrev y43f:=@List.set_cons_succ
theorem y43h {p:Prop} (h:p):Go.RowKit.Hid p:=Lib.hid h
theorem za0 {w:World} {b:Nat} {c:Array Value} {t:TypeId} (h:Own w b c t) (o:Nat) {n:Nat} (hn:o + n≤c.size):w.there b o n:=fun j hj=>by
 rw [h.cell (o + j)]
 exact ⟨by rw [Array.getElem?_eq_getElem (by omega)];rfl,h.free (o + j)⟩
structure RcX (w:World) (s:St) (x:Itm) (fv sv ov kv:Value) (X:World):Prop where
 a:Own X w.heap.size (stA s fv sv ov kv) 40
 x:Own X (w.heap.size + 1) (iA x) 58
 t:Own X (w.heap.size + 2) stZ.toArray 40
 b:Below w.heap.size w X
 s:Sure (fun b=>b < w.heap.size + 3) X fun w=>StW w s fv sv ov kv
theorem RcX.later {w X X':World} {s:St} {x:Itm} {fv sv ov kv:Value} (h:RcX w s x fv sv ov kv X) (hb:Below X.heap.size X X'):RcX w s x fv sv ov kv X':=⟨h.a.later hb,h.x.later hb,h.t.later hb,h.b.trans (hb.mono h.b.size),h.s.later hb⟩
theorem RcX.fin {w X:World} {s:St} {x:Itm} {fv sv ov kv:Value} (h:RcX w s x fv sv ov kv X) :
   Own (X.setCells (w.heap.size + 2) 0 (stA s fv sv ov kv).toList) (w.heap.size + 2) (stA s fv sv ov kv).toList.toArray 40∧Sure (fun b=>b < w.heap.size) (X.setCells (w.heap.size + 2) 0 (stA s fv sv ov kv).toList) (fun w=>StW w s fv sv ov kv)∧Below w.heap.size w (X.setCells (w.heap.size + 2) 0 (stA s fv sv ov kv).toList):=by
 have hs:=StoreR.sets (w.heap.size + 2) (stA s fv sv ov kv).toList X 0
 exact ⟨(zcc _ 0 h.t).whole (by rfl),(h.s.stored hs (by show _ < _;omega)).mono (fun b hb=>by have hb':b < w.heap.size:=hb;show b < _;omega),hs.bel (by omega) h.b⟩
theorem StW.shape {w:World} {s:St} {fv sv ov kv:Value} (h:StW w s fv sv ov kv):(∃ oa cap,fv=.slice oa s.f.kids.length cap)∧(∃ oa cap,sv=.slice oa s.store.length cap)∧(∃ oa cap,ov=.slice oa s.out.length cap)∧(∃ oa cap,kv=.slice oa s.k.l.length cap) :=
 ⟨zao h.lf,h.ls.val,h.lo.val,h.lk.val⟩
theorem zzv (x y:Itm):decide ((0:Int) < cmpT x y)=behT x y:=by
 unfold behT
 rcases zvm x.st x.r x.c y.st y.r y.c with h | h | h
 · have:cmpT x y=1:=h
   rw [this];rfl
 · have:cmpT x y=0:=h
   rw [this];rfl
 · have:cmpT x y=-1:=h
   rw [this];rfl
theorem zu0 (u:St) (fv sv ov kv:Value) (m:Int):(stA u fv sv ov kv).setIfInBounds 18 (.int .i64 m)=stA ⟨u.r,u.f,u.store,u.out,u.k,u.count,m,u.epoch⟩ fv sv ov kv:=by simp
def zrm (s:St) (id:ByteArray):St:=⟨s.r,s.f,s.store.filter (neB id),s.out.filter (neB id),s.k,s.count,s.clock,s.epoch⟩
def putS (s:St) (x:Itm):St:=⟨s.r,s.f,putI s.store x,s.out,s.k,s.count,s.clock,s.epoch⟩
def zi2 (s:St) (x:Itm) (bh:Bool):St:=match bh with | true=>zrm (preR s x) x.id | false=>preR s x
def zli (s:St) (x:Itm) (bh st:Bool):St:=match st with | true=>putS (zi2 s x bh) x | false=>zi2 s x bh
theorem zxg {s:St} {x:Itm}:zli s x (newB s x) (newB s x && hasT s.f x)=if newB s x=true then zbv (preR s x) x false else preR s x:=by
 cases hn:newB s x
 · rfl
 · rw [if_pos rfl,Bool.true_and]
   have ef:(preR s x).f=s.f:=rfl
   cases hh:hasT s.f x
   · show zrm (preR s x) x.id=zbv (preR s x) x false
     unfold zbv zam laidOut
     rw [ef,if_neg (by rw [hh];decide),if_neg (by rw [hh];decide),if_neg (by decide)]
     rfl
   · show putS (zrm (preR s x) x.id) x=zbv (preR s x) x false
     unfold zbv zam laidOut
     rw [ef,if_pos hh,if_pos hh]
     rfl
theorem h2b (bh h th st d:Bool) (e:(bh && h)=st):(bh && (h && (!th && d)))=(st && (!th && d)):=by rw [← e];cases bh <;> cases h <;> rfl
theorem zer (s:St) (fv sv ov kv:Value) (x:Itm) (w:World) (hS:StW w s fv sv ov kv) (hG:Good s) (hB:StB s) (hx:x.id.size≤maxLen∧x.kd.size≤maxLen) :
   Calls Tryz.prog 17 #[stV s fv sv ov kv,iV x] w fun e w'=>∃ fv' sv' ov' kv',e=.returned (.tuple #[stV (zax s x) fv' sv' ov' kv',errI (za8 s x)])∧Sure (fun b=>b < w.heap.size) w' (fun w=>StW w (zax s x) fv' sv' ov' kv')∧Below w.heap.size w w':=by
 have hfl:=zbk s.k x.id x.r x.c
 have CS:=fun w' h=>y43h (zel s fv sv ov kv w' h (Nat.le_trans hB.f (by decide)) (Nat.le_trans hB.ls (by decide)) (Nat.le_trans hB.lo (by decide)) (Nat.le_trans hB.kl (by decide)) (Nat.le_trans hB.ki (by decide)))
 have CC:=fun a b c d w'=>y43h (zjf s a b c d x w')
 have CK:=fun kv1 w' h=>y43h (zhm s.k x.id x.r x.c kv1 w' h hx.1)
 have CB:=fun a b w' h h'=>y43h (zgh s.store s.out a b w' h h' hG.rs hG.ro (Nat.le_trans hB.ls (by decide)) (Nat.le_trans hB.lo (by decide)))
 have hL40:(zar behT s.store s.out).length≤1000:=by have:=zjo (f:=behT) s.out (a:=s.store) hG.ro (fun i hi j hj=>hG.tw i hi j hj);have:=hG.n;omega
 have CG:=fun a w' h=>y43h (zd0 (zar behT s.store s.out) x.id a w' h (zd7 _ hG.rs) hL40 hx.1)
 have HLB:=y43h (zjo (f:=behT) s.out (a:=s.store) hG.ro (fun i hi j hj=>hG.tw i hi j hj))
 have CT:=fun y w'=>y43h (zki x y w')
 have CH:=fun a w' h=>y43h (zo2 s.f a x w' h hx.1 (Nat.le_trans hB.f (by decide)))
 have CW:=fun a w' h=>y43h (zcp s.k x.id x.r x.c a w' h hx.1 (by rw [hfl];exact Nat.le_trans (Nat.succ_le_succ hB.ki) (by decide)) (Nat.le_trans hB.kl (by decide)))
 have D1:=fun a w' h=>y43h (zcu s.store x.id a w' h hG.rs (Nat.le_trans hB.ls (by decide)) hx.1)
 have D2:=fun a w' h=>y43h (zcu s.out x.id a w' h hG.ro (Nat.le_trans hB.lo (by decide)) hx.1)
 have CP:=fun l a w' h hr hl=>y43h (zen l x a w' h hr hl hx)
 have HG:=y43h hG
 have HB:=y43h hB
 have HX:=y43h hx
 generalize hRS:zax s x=RS
 generalize hRE:za8 s x=RE
 have HRS:=y43h hRS
 have HRE:=y43h hRE
 clear hRS hRE
 have OA:=y43h (((Own.new w (stA s fv sv ov kv) 40).alloc (.cells (iA x) 58)).alloc (.cells stZ.toArray 40))
 have OX:=y43h ((Own.newAt (w.alloc (.cells (stA s fv sv ov kv) 40)) (iA x) 58 (b:=w.heap.size + 1) (by simp)).alloc (.cells stZ.toArray 40))
 have OT:=y43h (Own.newAt ((w.alloc (.cells (stA s fv sv ov kv) 40)).alloc (.cells (iA x) 58)) stZ.toArray 40 (b:=w.heap.size + 2) (by simp))
 have BEL:=y43h ((((Below.refl w.heap.size w).alloc (Nat.le_refl _) (.cells (stA s fv sv ov kv) 40)).alloc (by simp) (.cells (iA x) 58)).alloc (by simp;omega) (.cells stZ.toArray 40))
 have HS:=y43h hS
 clear hS hG hB hx hfl hL40
 go_enter Tryz.func17,Tryz.ntmps17
 go_upto_region 1 with fail
 revert OA OX OT BEL
 generalize World.alloc (World.alloc (World.alloc _ _) _) _=W1
 intro OA OX OT BEL
 -- the state in new memory
 go_upto_region 2 with (first
   | (refine wpList_load_mid (by rfl) 40 _ (by rfl) w.heap.size 0 (by rfl) (stA s fv sv ov kv).toList _ (by exact OA.out.part 0 _ (by rfl)) Tryz.underlying40 (by rfl) (by kernel_rfl) ?_)
   | (go_at_call 58;refine (CS _ (HS.out.later BEL.out)).out.mono ?_;rintro e w2 ⟨fv1,sv1,ov1,kv1,rfl,hs,hb⟩;obtain ⟨⟨o3,c3,rfl⟩,⟨o4,c4,rfl⟩,⟨o5,c5,rfl⟩,⟨o6,c6,rfl⟩⟩:=hs.now.shape;have zt:=OT.out.lt;have SX:=y43h (hs.mono (T':=fun b=>b < w.heap.size + 3) (fun b hb=>by have hb':b < w.heap.size + 3:=hb;show b < _;omega));replace OA:=y43h (OA.out.later hb);replace OX:=y43h (OX.out.later hb);replace OT:=y43h (OT.out.later hb);replace BEL:=y43h (BEL.out.trans (hb.mono BEL.out.size));clear hs hb zt)
   | (refine wpList_store_mid (by rfl) 40 _ _ (by rfl) w.heap.size 0 (stA s (.slice o3 s.f.kids.length c3) (.slice o4 s.store.length c4) (.slice o5 s.out.length c5) (.slice o6 s.k.l.length c6)) (by rfl) (by rfl) (by exact za0 OA.out 0 (by simp)) (by kernel_rfl) (by simp [Value.oneCell']) ?_)
   | fail)
 have HSR:=y43h (StoreR.sets w.heap.size (stA s (.slice o3 s.f.kids.length c3) (.slice o4 s.store.length c4) (.slice o5 s.out.length c5) (.slice o6 s.k.l.length c6)).toList w2 0)
 have CX:Hid (RcX w s x (.slice o3 s.f.kids.length c3) (.slice o4 s.store.length c4) (.slice o5 s.out.length c5) (.slice o6 s.k.l.length c6) (w2.setCells w.heap.size 0 (stA s (.slice o3 s.f.kids.length c3) (.slice o4 s.store.length c4) (.slice o5 s.out.length c5) (.slice o6 s.k.l.length c6)).toList)):=y43h ⟨(zcc _ 0 OA.out).whole (by rfl),OX.out.stored HSR.out (by omega),OT.out.stored HSR.out (by omega),HSR.out.bel (Nat.le_refl _) BEL.out,SX.out.stored HSR.out (by show _ < _;omega)⟩
 clear OA OX OT BEL SX HSR HS CS
 revert CX
 generalize World.setCells _ _ _ _=W3
 intro CX
 try simp only [Act.put]
 -- what may come
 by_cases hc:zbc s x=false
 · rw [hc] at CC
   have e1:zax s x=s:=by unfold zax;rw [if_neg (by rw [hc];decide)]
   have e2:za8 s x=1:=by unfold za8;rw [if_neg (by rw [hc];decide)]
   have eS:=y43h (HRS.out.symm.trans e1)
   have eE:=y43h (HRE.out.symm.trans e2)
   clear e1 e2 hc
   have lA:=CX.out.a.cell
   have zA:=CX.out.a.lt
   have lX:=CX.out.x.cell
   have zX:=CX.out.x.lt
   go_upto_region 3 with (first
     | (refine wpList_load_mid (by rfl) 40 _ (by rfl) w.heap.size 0 (by rfl) (stA s (.slice o3 s.f.kids.length c3) (.slice o4 s.store.length c4) (.slice o5 s.out.length c5) (.slice o6 s.k.l.length c6)).toList _ (by exact CX.out.a.part 0 _ (by rfl)) Tryz.underlying40 (by rfl) (by kernel_rfl) ?_)
     | (refine wpList_load_mid (by rfl) 58 _ (by rfl) (w.heap.size + 1) 0 (by rfl) (ic x) _ (by exact CX.out.x.part 0 _ (by rfl)) Tryz.underlying58 (by rfl) (by kernel_rfl) ?_)
     | (go_at_call 59;refine (CC _ _ _ _ _).out.mono ?_;rintro e wy ⟨rfl,hb⟩;clear lA zA lX zX;replace CX:=y43h (CX.out.later hb);clear hb;have lA:=CX.out.a.cell;have zA:=CX.out.a.lt;have lX:=CX.out.x.cell;have zX:=CX.out.x.lt)
     | fail)
   go_wp2_with (first
     | (refine wpList_load_mid (by rfl) 40 _ (by rfl) w.heap.size 0 (by rfl) (stA s (.slice o3 s.f.kids.length c3) (.slice o4 s.store.length c4) (.slice o5 s.out.length c5) (.slice o6 s.k.l.length c6)).toList _ (by exact CX.out.a.part 0 _ (by rfl)) Tryz.underlying40 (by rfl) (by kernel_rfl) ?_)
     | (refine wpList_store_mid (by rfl) 40 _ _ (by rfl) (w.heap.size + 2) 0 (stA s (.slice o3 s.f.kids.length c3) (.slice o4 s.store.length c4) (.slice o5 s.out.length c5) (.slice o6 s.k.l.length c6)) (by rfl) (by rfl) (by exact za0 CX.out.t 0 (by simp)) (by kernel_rfl) (by simp [Value.oneCell']) ?_)
     | fail)
   have HK:=y43h CX.out.fin
   clear lA zA lX zX
   revert HK
   generalize World.setCells _ _ _ _=WW
   intro HK
   try skip
   exact zab (by rfl) (by rfl) (by rfl) (l:=(stA s (.slice o3 s.f.kids.length c3) (.slice o4 s.store.length c4) (.slice o5 s.out.length c5) (.slice o6 s.k.l.length c6)).toList) HK.out.1.range Tryz.underlying40 (by rfl) (by kernel_rfl) rfl ⟨(.slice o3 s.f.kids.length c3),(.slice o4 s.store.length c4),(.slice o5 s.out.length c5),(.slice o6 s.k.l.length c6),by rw [eS.out,eE.out];rfl,by rw [eS.out];exact HK.out.2.1,HK.out.2.2⟩
 have hc2:zbc s x=true:=by cases h:zbc s x;exact absurd h hc;rfl
 rw [hc2] at CC
 have lA:=CX.out.a.cell
 have zA:=CX.out.a.lt
 have lX:=CX.out.x.cell
 have zX:=CX.out.x.lt
 by_cases hk:hasK s.k x.id x.r x.c=true
 · rw [hk] at CK
   have e1:zax s x=s:=by unfold zax;rw [if_pos hc2,if_pos hk]
   have e2:za8 s x=0:=by unfold za8;rw [if_pos hc2,if_pos hk]
   have eS:=y43h (HRS.out.symm.trans e1)
   have eE:=y43h (HRE.out.symm.trans e2)
   clear e1 e2 hc hc2 hk
   go_upto_region 5 with (first
     | (refine wpList_load_mid (by rfl) 40 _ (by rfl) w.heap.size 0 (by rfl) (stA s (.slice o3 s.f.kids.length c3) (.slice o4 s.store.length c4) (.slice o5 s.out.length c5) (.slice o6 s.k.l.length c6)).toList _ (by exact CX.out.a.part 0 _ (by rfl)) Tryz.underlying40 (by rfl) (by kernel_rfl) ?_)
     | (refine wpList_load_mid (by rfl) 58 _ (by rfl) (w.heap.size + 1) 0 (by rfl) (ic x) _ (by exact CX.out.x.part 0 _ (by rfl)) Tryz.underlying58 (by rfl) (by kernel_rfl) ?_)
     | (refine wpList_load_mid (by rfl) 38 _ (by rfl) w.heap.size 8 (by rfl) (knA s.k.star (.slice o6 s.k.l.length c6)).toList _ (by exact CX.out.a.part 8 _ (by rfl)) Tryz.underlying38 (by rfl) (by kernel_rfl) ?_)
     | (go_at_call 59;refine (CC _ _ _ _ _).out.mono ?_;rintro e wy ⟨rfl,hb⟩;clear lA zA lX zX;replace CX:=y43h (CX.out.later hb);clear hb;have lA:=CX.out.a.cell;have zA:=CX.out.a.lt;have lX:=CX.out.x.cell;have zX:=CX.out.x.lt)
     | (go_at_call 52;refine (CK _ _ CX.out.s.now.lk).out.mono ?_;rintro e wy ⟨rfl,hb⟩;clear lA zA lX zX;replace CX:=y43h (CX.out.later hb);clear hb;have lA:=CX.out.a.cell;have zA:=CX.out.a.lt;have lX:=CX.out.x.cell;have zX:=CX.out.x.lt)
     | fail)
   go_wp2_with (first
     | (refine wpList_load_mid (by rfl) 40 _ (by rfl) w.heap.size 0 (by rfl) (stA s (.slice o3 s.f.kids.length c3) (.slice o4 s.store.length c4) (.slice o5 s.out.length c5) (.slice o6 s.k.l.length c6)).toList _ (by exact CX.out.a.part 0 _ (by rfl)) Tryz.underlying40 (by rfl) (by kernel_rfl) ?_)
     | (refine wpList_store_mid (by rfl) 40 _ _ (by rfl) (w.heap.size + 2) 0 (stA s (.slice o3 s.f.kids.length c3) (.slice o4 s.store.length c4) (.slice o5 s.out.length c5) (.slice o6 s.k.l.length c6)) (by rfl) (by rfl) (by exact za0 CX.out.t 0 (by simp)) (by kernel_rfl) (by simp [Value.oneCell']) ?_)
     | fail)
   have HK:=y43h CX.out.fin
   clear lA zA lX zX
   revert HK
   generalize World.setCells _ _ _ _=WW
   intro HK
   try skip
   exact zab (by rfl) (by rfl) (by rfl) (l:=(stA s (.slice o3 s.f.kids.length c3) (.slice o4 s.store.length c4) (.slice o5 s.out.length c5) (.slice o6 s.k.l.length c6)).toList) HK.out.1.range Tryz.underlying40 (by rfl) (by kernel_rfl) rfl ⟨(.slice o3 s.f.kids.length c3),(.slice o4 s.store.length c4),(.slice o5 s.out.length c5),(.slice o6 s.k.l.length c6),by rw [eS.out,eE.out];rfl,by rw [eS.out];exact HK.out.2.1,HK.out.2.2⟩
 have hk2:hasK s.k x.id x.r x.c=false:=by cases h:hasK s.k x.id x.r x.c;rfl;exact absurd h hk
 rw [hk2] at CK
 have R1:zax s x=if zcj s x=true then s else (if newB s x=true then zbv (preR s x) x false else preR s x):=by unfold zax;rw [if_pos hc2,if_neg hk]
 have R2:za8 s x=if zcj s x=true then 4 else 0:=by unfold za8;rw [if_pos hc2,if_neg hk]
 rw [← zxg] at R1
 have RR1:=y43h R1
 have RR2:=y43h R2
 clear R1 R2 hc hc2 hk hk2
 -- what stands
 have HNB:=y43h (show newB s x=(!(getI (zar behT s.store s.out) x.id).2 || behT x (getI (zar behT s.store s.out) x.id).1) from rfl)
 have HFL:=y43h (show zcj s x=(newB s x && (hasT s.f x && (!(getI (zar behT s.store s.out) x.id).2 && decide (s.store.length + s.out.length=40)))) from rfl)
 generalize zar behT s.store s.out=all at *
 generalize getI all x.id=gt at *
 obtain ⟨y,th⟩:=gt
 simp only at HNB HFL
 go_upto_region 8 with (first
   | (refine wpList_load_mid (by rfl) 40 _ (by rfl) w.heap.size 0 (by rfl) (stA s (.slice o3 s.f.kids.length c3) (.slice o4 s.store.length c4) (.slice o5 s.out.length c5) (.slice o6 s.k.l.length c6)).toList _ (by exact CX.out.a.part 0 _ (by rfl)) Tryz.underlying40 (by rfl) (by kernel_rfl) ?_)
   | (refine wpList_load_mid (by rfl) 58 _ (by rfl) (w.heap.size + 1) 0 (by rfl) (ic x) _ (by exact CX.out.x.part 0 _ (by rfl)) Tryz.underlying58 (by rfl) (by kernel_rfl) ?_)
   | (refine wpList_load_mid (by rfl) 38 _ (by rfl) w.heap.size 8 (by rfl) (knA s.k.star (.slice o6 s.k.l.length c6)).toList _ (by exact CX.out.a.part 8 _ (by rfl)) Tryz.underlying38 (by rfl) (by kernel_rfl) ?_)
   | (go_at_call 59;refine (CC _ _ _ _ _).out.mono ?_;rintro e wy ⟨rfl,hb⟩;clear lA zA lX zX;replace CX:=y43h (CX.out.later hb);clear hb;have lA:=CX.out.a.cell;have zA:=CX.out.a.lt;have lX:=CX.out.x.cell;have zX:=CX.out.x.lt)
   | (go_at_call 52;refine (CK _ _ CX.out.s.now.lk).out.mono ?_;rintro e wy ⟨rfl,hb⟩;clear lA zA lX zX;replace CX:=y43h (CX.out.later hb);clear hb;have lA:=CX.out.a.cell;have zA:=CX.out.a.lt;have lX:=CX.out.x.cell;have zX:=CX.out.x.lt)
   | (go_at_call 60;refine (CB _ _ _ CX.out.s.now.ls CX.out.s.now.lo).out.mono ?_;rintro e wy ⟨va,rfl,hra,hb⟩;obtain ⟨oa,ca,rfl⟩:=hra.val;have HRA:=y43h hra;clear lA zA lX zX;replace CX:=y43h (CX.out.later hb);clear hra hb;have lA:=CX.out.a.cell;have zA:=CX.out.a.lt;have lX:=CX.out.x.cell;have zX:=CX.out.x.lt)
   | (go_at_call 61;refine (CG _ _ HRA.out).out.mono ?_;rintro e wg ⟨rfl,hb⟩;clear lA zA lX zX;replace CX:=y43h (CX.out.later hb);clear hb;have lA:=CX.out.a.cell;have zA:=CX.out.a.lt;have lX:=CX.out.x.cell;have zX:=CX.out.x.lt;have OY:=y43h (Own.new wg (iA y) 58))
   | fail)
 clear lA zA lX zX
 replace CX:=y43h (CX.out.later ((Below.refl _ _).alloc (Nat.le_refl _) (.cells (iA y) 58)))
 clear HRA
 revert CX
 revert OY
 generalize World.alloc _ _=W4
 generalize wg.heap.size=by_
 intro OY CX
 try simp only [Act.put]
 generalize newB s x=bh at *
 go_cut [9] (fun s9 wx=>s9=.bool bh∧Hid (RcX w s x (.slice o3 s.f.kids.length c3) (.slice o4 s.store.length c4) (.slice o5 s.out.length c5) (.slice o6 s.k.l.length c6) wx))
 case first =>
   cases th with
   | false =>
     have hb:bh=true:=HNB.out
     subst hb
     go_wp2_with fail
     go_meet
     exact ⟨rfl,CX⟩
   | true =>
     have hg:decide ((0:Int) < cmpT x y)=bh:=(zzv x y).trans HNB.out.symm
     have lY:=OY.out.cell
     have zY:=OY.out.lt
     have lX:=CX.out.x.cell
     have zX:=CX.out.x.lt
     go_wp2_with (first
       | (refine wpList_load_mid (by rfl) 58 _ (by rfl) (w.heap.size + 1) 0 (by rfl) (ic x) _ (by exact CX.out.x.part 0 _ (by rfl)) Tryz.underlying58 (by rfl) (by kernel_rfl) ?_)
       | (refine wpList_load_mid (by rfl) 58 _ (by rfl) by_ 0 (by rfl) (ic y) _ (by exact OY.out.part 0 _ (by rfl)) Tryz.underlying58 (by rfl) (by kernel_rfl) ?_)
       | (go_at_call 62;refine (CT _ _).out.mono ?_;rintro e wy ⟨rfl,hb⟩;replace CX:=y43h (CX.out.later hb);clear lY zY lX zX hb)
       | fail)
     go_meet
     exact ⟨rfl,CX⟩
 case rest =>
   clear CX OY
   obtain ⟨rfl,CX⟩:=hcut
   generalize wc=wq at *
   have HST:=y43h (rfl:(bh && hasT s.f x)=(bh && hasT s.f x))
   generalize hst:(bh && hasT s.f x)=st at RR1
   have HSE:=y43h hst
   clear hst HST
   go_upto_region 9 with fail
   go_cut [10] (fun s10 wx=>s10=.bool st∧Hid (RcX w s x (.slice o3 s.f.kids.length c3) (.slice o4 s.store.length c4) (.slice o5 s.out.length c5) (.slice o6 s.k.l.length c6) wx))
   case first =>
     cases bh with
     | false =>
       have hb:st=false:=HSE.out.symm
       subst hb
       go_wp2_with fail
       go_meet
       exact ⟨rfl,CX⟩
     | true =>
       have hb:hasT s.f x=st:=HSE.out
       rw [hb] at CH
       clear hb
       have lA:=CX.out.a.cell
       have zA:=CX.out.a.lt
       have lX:=CX.out.x.cell
       have zX:=CX.out.x.lt
       go_wp2_with (first
         | (refine wpList_load_mid (by rfl) 32 _ (by rfl) w.heap.size 1 (by rfl) [.int .i64 s.f.op,.string s.f.text,.int .i64 s.f.n,.complex .f64 s.f.x s.f.y,(.slice o3 s.f.kids.length c3)] _ (by exact CX.out.a.part 1 _ (by rfl)) Tryz.underlying32 (by rfl) (by kernel_rfl) ?_)
         | (refine wpList_load_mid (by rfl) 58 _ (by rfl) (w.heap.size + 1) 0 (by rfl) (ic x) _ (by exact CX.out.x.part 0 _ (by rfl)) Tryz.underlying58 (by rfl) (by kernel_rfl) ?_)
         | (go_at_call 63;refine (CH _ _ CX.out.s.now.lf).out.mono ?_;rintro e wy ⟨rfl,hb⟩;replace CX:=y43h (CX.out.later hb);clear hb)
         | fail)
       all_goals
         go_meet
         exact ⟨rfl,CX⟩
   case rest =>
     clear CX
     obtain ⟨rfl,CX⟩:=hcut
     generalize wc=wr at *
     clear CH
     go_upto_region 10 with fail
     go_cut [63] (fun s63 wx=>s63=.bool (zcj s x)∧Hid (RcX w s x (.slice o3 s.f.kids.length c3) (.slice o4 s.store.length c4) (.slice o5 s.out.length c5) (.slice o6 s.k.l.length c6) wx))
     case first =>
       have h1:=HFL.out
       have h2:=HSE.out
       have hn:=HG.out.n
       have h0:=HLB.out
       rw [h2b bh (hasT s.f x) th st (decide (s.store.length + s.out.length=40)) h2] at h1
       clear h2
       have CZ:=CX
       clear CX
       by_cases h40:s.store.length + s.out.length=40
       · rw [decide_eq_true h40] at h1
         have h8:(40:Int)≤(all.length:Int):=by omega
         have h9:decide ((40:Int)≤(all.length:Int))=true:=decide_eq_true h8
         clear h40 hn h0
         have HF1:=y43h h1
         clear h1
         generalize all.length=na at *
         cases st <;> cases th <;> (go_wp2_with fail;go_meet;exact ⟨by rw [HF1.out];rfl,CZ⟩)
       · rw [decide_eq_false h40] at h1
         have h8:(all.length:Int) < 40:=by omega
         have h9:decide ((40:Int)≤(all.length:Int))=false:=decide_eq_false (by omega)
         clear h40 hn h0
         have HF1:=y43h h1
         clear h1
         generalize all.length=na at *
         cases st <;> cases th <;> (go_wp2_with fail;go_meet;exact ⟨by rw [HF1.out];rfl,CZ⟩)
     case rest =>
       clear CX
       obtain ⟨rfl,CX⟩:=hcut
       generalize wc=wu at *
       by_cases hf:zcj s x=true
       · have e1:zax s x=s:=by rw [RR1.out,if_pos hf]
         have e2:za8 s x=4:=by rw [RR2.out,if_pos hf]
         have eS:=y43h (HRS.out.symm.trans e1)
         have eE:=y43h (HRE.out.symm.trans e2)
         rw [hf]
         clear e1 e2 hf
         go_upto_region 11 with fail
         have lA:=CX.out.a.cell
         have zA:=CX.out.a.lt
         have lX:=CX.out.x.cell
         have zX:=CX.out.x.lt
         go_wp2_with (first
           | (refine wpList_load_mid (by rfl) 40 _ (by rfl) w.heap.size 0 (by rfl) (stA s (.slice o3 s.f.kids.length c3) (.slice o4 s.store.length c4) (.slice o5 s.out.length c5) (.slice o6 s.k.l.length c6)).toList _ (by exact CX.out.a.part 0 _ (by rfl)) Tryz.underlying40 (by rfl) (by kernel_rfl) ?_)
           | (refine wpList_store_mid (by rfl) 40 _ _ (by rfl) (w.heap.size + 2) 0 (stA s (.slice o3 s.f.kids.length c3) (.slice o4 s.store.length c4) (.slice o5 s.out.length c5) (.slice o6 s.k.l.length c6)) (by rfl) (by rfl) (by exact za0 CX.out.t 0 (by simp)) (by kernel_rfl) (by simp [Value.oneCell']) ?_)
           | fail)
         have HK:=y43h CX.out.fin
         clear lA zA lX zX
         revert HK
         generalize World.setCells _ _ _ _=WW
         intro HK
         try skip
         exact zab (by rfl) (by rfl) (by rfl) (l:=(stA s (.slice o3 s.f.kids.length c3) (.slice o4 s.store.length c4) (.slice o5 s.out.length c5) (.slice o6 s.k.l.length c6)).toList) HK.out.1.range Tryz.underlying40 (by rfl) (by kernel_rfl) rfl ⟨(.slice o3 s.f.kids.length c3),(.slice o4 s.store.length c4),(.slice o5 s.out.length c5),(.slice o6 s.k.l.length c6),by rw [eS.out,eE.out];rfl,by rw [eS.out];exact HK.out.2.1,HK.out.2.2⟩
       have hff:zcj s x=false:=by cases h:zcj s x;rfl;exact absurd h hf
       have R1:zax s x=zli s x bh st:=by rw [RR1.out,if_neg hf]
       have R2:za8 s x=0:=by rw [RR2.out,if_neg hf]
       have eS:=y43h (HRS.out.symm.trans R1)
       have eE:=y43h (HRE.out.symm.trans R2)
       rw [hff]
       clear R1 R2 RR1 RR2 hff hf
       have hid0:=HX.out.1
       go_upto_region 12 with fail
       go_cut [77] (fun _ wx=>∃ (o7:Option Addr) (n7 c7:Nat),Hid (RcX w (preR s x) x (.slice o3 s.f.kids.length c3) (.slice o4 s.store.length c4) (.slice o5 s.out.length c5) (.slice o7 n7 c7) wx))
       case first =>
         have OA:=y43h CX.out.a
         have OX:=y43h CX.out.x
         have OT:=y43h CX.out.t
         have BEL:=y43h CX.out.b
         have SX:=y43h CX.out.s
         clear CX
         refine zf9 (T:=fun k=>k=w.heap.size) (D:=fun k=>k == 13 || k == 15) (by kernel_rfl) (fun wd hbd=>?_)
         replace OA:=y43h (OA.out.later hbd)
         replace OX:=y43h (OX.out.later hbd)
         replace OT:=y43h (OT.out.later hbd)
         replace BEL:=y43h (BEL.out.trans (Below.mono hbd BEL.out.size))
         replace SX:=y43h (SX.out.later hbd)
         clear hbd
         refine zat (i:=0) (v:=?_) rfl (by kernel_rfl) (by kernel_rfl) (by kernel_rfl) (fun _ _ _ h=>h) (Or.inl ⟨by rfl,?_⟩) ?_
         rotate_left 1
         · (intro wL hL;go_simp;try with_reducible rfl)
         try simp only [Act.put,y43a,y43b,y43c,y43d,y43e,y43f]
         refine zcx (i:=1) (v:=.agg (knA s.k.star (.slice o6 s.k.l.length c6))) rfl (by kernel_rfl) (by kernel_rfl) (by kernel_rfl) (by kernel_rfl) (fun _ _ _ h=>h) (Or.inl ⟨by rfl,fun wL hL=>zc9 38 _ rfl (w.heap.size) 8 (by rfl) ((knA s.k.star (.slice o6 s.k.l.length c6)):Array Value).toList _ ((OA.out.later hL).part 8 _ (by rfl)) Tryz.underlying38 (by rfl) (by kernel_rfl)⟩) ?_
         try simp only [Act.put,y43a,y43b,y43c,y43d,y43e,y43f]
         refine zat (i:=2) (v:=?_) rfl (by kernel_rfl) (by kernel_rfl) (by kernel_rfl) (fun _ _ _ h=>h) (Or.inl ⟨by rfl,?_⟩) ?_
         rotate_left 1
         · (intro wL hL;go_simp;try with_reducible rfl)
         try simp only [Act.put,y43a,y43b,y43c,y43d,y43e,y43f]
         refine zat (i:=3) (v:=?_) rfl (by kernel_rfl) (by kernel_rfl) (by kernel_rfl) (fun _ _ _ h=>h) (Or.inl ⟨by rfl,?_⟩) ?_
         rotate_left 1
         · (intro wL hL;have lL:=(OX.out.but hL (by show ¬ _=_;omega)).cell;have zL:=(OX.out.but hL (by show ¬ _=_;omega)).lt;go_simp;try with_reducible rfl)
         try simp only [Act.put,y43a,y43b,y43c,y43d,y43e,y43f]
         refine zat (i:=4) (v:=?_) rfl (by kernel_rfl) (by kernel_rfl) (by kernel_rfl) (fun _ _ _ h=>h) (Or.inl ⟨by rfl,?_⟩) ?_
         rotate_left 1
         · (intro wL hL;go_simp;try with_reducible rfl)
         try simp only [Act.put,y43a,y43b,y43c,y43d,y43e,y43f]
         refine zat (i:=5) (v:=?_) rfl (by kernel_rfl) (by kernel_rfl) (by kernel_rfl) (fun _ _ _ h=>h) (Or.inl ⟨by rfl,?_⟩) ?_
         rotate_left 1
         · (intro wL hL;have lL:=(OX.out.but hL (by show ¬ _=_;omega)).cell;have zL:=(OX.out.but hL (by show ¬ _=_;omega)).lt;go_simp;try with_reducible rfl)
         try simp only [Act.put,y43a,y43b,y43c,y43d,y43e,y43f]
         refine zat (i:=7) (v:=?_) rfl (by kernel_rfl) (by kernel_rfl) (by kernel_rfl) (fun _ _ _ h=>h) (Or.inl ⟨by rfl,?_⟩) ?_
         rotate_left 1
         · (intro wL hL;go_simp;try with_reducible rfl)
         try simp only [Act.put,y43a,y43b,y43c,y43d,y43e,y43f]
         refine zcx (i:=8) (v:=?_) rfl (by kernel_rfl) (by kernel_rfl) (by kernel_rfl) (by kernel_rfl) (fun _ _ _ h=>h) (Or.inl ⟨by rfl,?_⟩) ?_
         rotate_left 1
         · (intro wL hL;have lL:=(OA.out.later hL).cell;have zL:=(OA.out.later hL).lt;go_simp;try with_reducible rfl)
         try simp only [Act.put,y43a,y43b,y43c,y43d,y43e,y43f]
         refine zat (i:=9) (v:=?_) rfl (by kernel_rfl) (by kernel_rfl) (by kernel_rfl) (fun _ _ _ h=>h) (Or.inl ⟨by rfl,?_⟩) ?_
         rotate_left 1
         · (intro wL hL;go_simp;try with_reducible rfl)
         try simp only [Act.put,y43a,y43b,y43c,y43d,y43e,y43f]
         refine zat (i:=10) (v:=?_) rfl (by kernel_rfl) (by kernel_rfl) (by kernel_rfl) (fun _ _ _ h=>h) (Or.inl ⟨by rfl,?_⟩) ?_
         rotate_left 1
         · (intro wL hL;have lL:=(OX.out.but hL (by show ¬ _=_;omega)).cell;have zL:=(OX.out.but hL (by show ¬ _=_;omega)).lt;go_simp;try with_reducible rfl)
         try simp only [Act.put,y43a,y43b,y43c,y43d,y43e,y43f]
         refine zat (i:=11) (v:=?_) rfl (by kernel_rfl) (by kernel_rfl) (by kernel_rfl) (fun _ _ _ h=>h) (Or.inl ⟨by rfl,?_⟩) ?_
         rotate_left 1
         · (intro wL hL;go_simp;try with_reducible rfl)
         try simp only [Act.put,y43a,y43b,y43c,y43d,y43e,y43f]
         refine zbw (i:=6) (by kernel_rfl) ?_
         have z6OA:=OA.out.lt
         have z6OX:=OX.out.lt
         have z6OT:=OT.out.lt
         refine zcn (by rfl) (by rfl) (fun K hK=>?_)
         try simp only [y43a,y43b,y43c]
         (go_simp;go_at_call 64;(with_reducible refine (CW _ _ SX.out.now.lk).out.mono ?_);rintro e wc2 ⟨v7,rfl,hf7,hb⟩;obtain ⟨o7,c7,ev7⟩:=hf7.fr.val;generalize (zah (zal s.k x.id x.r x.c)).l.length=n7 at ev7;subst ev7;have SK:=y43h (hf7.sure.mono (T':=fun b=>b < w.heap.size + 3) (fun b hb=>by have hb':b < w.heap.size + 3:=hb;show b < _;omega));clear hf7)
         try go_wp2_with fail
         refine hK.out _ _ (fun _=>hb) (But.of hb) ?_
         clear hK K
         replace OA:=y43h (OA.out.later hb)
         replace OX:=y43h (OX.out.later hb)
         replace OT:=y43h (OT.out.later hb)
         replace BEL:=y43h (BEL.out.trans (Below.mono hb BEL.out.size))
         replace SX:=y43h (SX.out.later hb)
         clear hb
         try simp only [Act.put,y43a,y43b,y43c,y43d,y43e,y43f]
         refine zat (i:=12) (v:=?_) rfl (by kernel_rfl) (by kernel_rfl) (by kernel_rfl) (fun _ _ _ h=>h) (Or.inl ⟨by rfl,?_⟩) ?_
         rotate_left 1
         · (intro wL hL;go_simp;try with_reducible rfl)
         try simp only [Act.put,y43a,y43b,y43c,y43d,y43e,y43f]
         refine zbw (i:=13) (by kernel_rfl) ?_
         refine zgc (by rfl) (by rfl) 38 _ _ (by rfl) (w.heap.size) (8) (knA s.k.star (.slice o7 n7 c7)) (by rfl) (by rfl) OA.out (by simp) (by kernel_rfl) (by simp [Value.oneCell']) (by rfl) (rfl) (fun ws hs ho=>?_)
         replace OX:=y43h (OX.out.stored hs (by omega))
         replace OT:=y43h (OT.out.stored hs (by omega))
         replace BEL:=y43h (hs.bel (by omega) BEL.out)
         replace SX:=y43h (SX.out.stored hs (by show _ < _;omega))
         replace SK:=y43h (SK.out.stored hs (by show _ < _;omega))
         replace OA:=y43h ho
         clear hs ho
         replace OA:=y43h (zfq s s.k.star (zah (zal s.k x.id x.r x.c)).l (.slice o3 s.f.kids.length c3) (.slice o4 s.store.length c4) (.slice o5 s.out.length c5) (.slice o6 s.k.l.length c6) (.slice o7 n7 c7) ▸ OA.out)
         try simp only [Act.put,y43a,y43b,y43c,y43d,y43e,y43f]
         refine zat (i:=14) (v:=?_) rfl (by kernel_rfl) (by kernel_rfl) (by kernel_rfl) (fun _ _ _ h=>h) (Or.inl ⟨by rfl,?_⟩) ?_
         rotate_left 1
         · (intro wL hL;go_simp;try with_reducible rfl)
         try simp only [Act.put,y43a,y43b,y43c,y43d,y43e,y43f]
         refine zbw (i:=15) (by kernel_rfl) ?_
         refine zdl (by rfl) (by rfl) (w.heap.size) (18) (.int .i64 (max s.clock x.st)) OA.out (by have lL:=OA.out.cell;have fL:=OA.out.free;have zL:=OA.out.lt;go_simp;try rfl) (by rfl) (rfl) (fun ws hs ho=>?_)
         replace OX:=y43h (OX.out.stored hs (by omega))
         replace OT:=y43h (OT.out.stored hs (by omega))
         replace BEL:=y43h (hs.bel (by omega) BEL.out)
         replace SX:=y43h (SX.out.stored hs (by show _ < _;omega))
         replace SK:=y43h (SK.out.stored hs (by show _ < _;omega))
         replace OA:=y43h ho
         clear hs ho
         replace OA:=y43h (zu0 _ _ _ _ _ _ ▸ OA.out)
         try simp only [Act.put,y43a,y43b,y43c,y43d,y43e,y43f]
         refine zg2 (by kernel_rfl) ?_ _
         go_wp2_with fail
         go_meet
         exact ⟨o7,n7,c7,y43h ⟨OA.out,OX.out,OT.out,BEL.out,fun w2 h2=>⟨(SX.out w2 h2).lf,(SX.out w2 h2).ls,(SX.out w2 h2).lo,SK.out w2 h2⟩⟩⟩
       case rest =>
         clear CX CW
         obtain ⟨o7,n7,c7,CX⟩:=hcut
         generalize wc=wv at *
         go_upto_if 80 with fail
         go_cut [90] (fun _ wx=>∃ (o8:Option Addr) (n8 c8:Nat) (o9:Option Addr) (n9 c9:Nat),Hid (RcX w (zi2 s x bh) x (.slice o3 s.f.kids.length c3) (.slice o8 n8 c8) (.slice o9 n9 c9) (.slice o7 n7 c7) wx))
         case first =>
           cases bh with
           | false =>
             go_wp2_with fail
             go_meet
             exact ⟨_,_,_,_,_,_,CX⟩
           | true =>
             have HO1:=y43h CX.out.s.now.ls.oks
             have HO2:=y43h CX.out.s.now.lo.oks
             have OA:=y43h CX.out.a
             have OX:=y43h CX.out.x
             have OT:=y43h CX.out.t
             have BEL:=y43h CX.out.b
             have SX:=y43h CX.out.s
             clear CX
             go_upto_region 14 with fail
             refine zf9 (T:=fun k=>k=w.heap.size) (D:=fun k=>k == 11 || k == 13) (by kernel_rfl) (fun wd hbd=>?_)
             replace OA:=y43h (OA.out.later hbd)
             replace OX:=y43h (OX.out.later hbd)
             replace OT:=y43h (OT.out.later hbd)
             replace BEL:=y43h (BEL.out.trans (Below.mono hbd BEL.out.size))
             replace SX:=y43h (SX.out.later hbd)
             clear hbd
             refine zat (i:=0) (v:=?_) rfl (by kernel_rfl) (by kernel_rfl) (by kernel_rfl) (fun _ _ _ h=>h) (Or.inl ⟨by rfl,?_⟩) ?_
             rotate_left 1
             · (intro wL hL;go_simp;try with_reducible rfl)
             try simp only [Act.put,y43a,y43b,y43c,y43d,y43e,y43f]
             refine zcx (i:=1) (v:=?_) rfl (by kernel_rfl) (by kernel_rfl) (by kernel_rfl) (by kernel_rfl) (fun _ _ _ h=>h) (Or.inl ⟨by rfl,?_⟩) ?_
             rotate_left 1
             · (intro wL hL;have lL:=(OA.out.later hL).cell;have zL:=(OA.out.later hL).lt;go_simp;try with_reducible rfl)
             try simp only [Act.put,y43a,y43b,y43c,y43d,y43e,y43f]
             refine zat (i:=2) (v:=?_) rfl (by kernel_rfl) (by kernel_rfl) (by kernel_rfl) (fun _ _ _ h=>h) (Or.inl ⟨by rfl,?_⟩) ?_
             rotate_left 1
             · (intro wL hL;go_simp;try with_reducible rfl)
             try simp only [Act.put,y43a,y43b,y43c,y43d,y43e,y43f]
             refine zat (i:=3) (v:=?_) rfl (by kernel_rfl) (by kernel_rfl) (by kernel_rfl) (fun _ _ _ h=>h) (Or.inl ⟨by rfl,?_⟩) ?_
             rotate_left 1
             · (intro wL hL;have lL:=(OX.out.but hL (by show ¬ _=_;omega)).cell;have zL:=(OX.out.but hL (by show ¬ _=_;omega)).lt;go_simp;try with_reducible rfl)
             try simp only [Act.put,y43a,y43b,y43c,y43d,y43e,y43f]
             refine zat (i:=5) (v:=?_) rfl (by kernel_rfl) (by kernel_rfl) (by kernel_rfl) (fun _ _ _ h=>h) (Or.inl ⟨by rfl,?_⟩) ?_
             rotate_left 1
             · (intro wL hL;go_simp;try with_reducible rfl)
             try simp only [Act.put,y43a,y43b,y43c,y43d,y43e,y43f]
             refine zcx (i:=6) (v:=?_) rfl (by kernel_rfl) (by kernel_rfl) (by kernel_rfl) (by kernel_rfl) (fun _ _ _ h=>h) (Or.inl ⟨by rfl,?_⟩) ?_
             rotate_left 1
             · (intro wL hL;have lL:=(OA.out.later hL).cell;have zL:=(OA.out.later hL).lt;go_simp;try with_reducible rfl)
             try simp only [Act.put,y43a,y43b,y43c,y43d,y43e,y43f]
             refine zat (i:=7) (v:=?_) rfl (by kernel_rfl) (by kernel_rfl) (by kernel_rfl) (fun _ _ _ h=>h) (Or.inl ⟨by rfl,?_⟩) ?_
             rotate_left 1
             · (intro wL hL;go_simp;try with_reducible rfl)
             try simp only [Act.put,y43a,y43b,y43c,y43d,y43e,y43f]
             refine zat (i:=8) (v:=?_) rfl (by kernel_rfl) (by kernel_rfl) (by kernel_rfl) (fun _ _ _ h=>h) (Or.inl ⟨by rfl,?_⟩) ?_
             rotate_left 1
             · (intro wL hL;have lL:=(OX.out.but hL (by show ¬ _=_;omega)).cell;have zL:=(OX.out.but hL (by show ¬ _=_;omega)).lt;go_simp;try with_reducible rfl)
             try simp only [Act.put,y43a,y43b,y43c,y43d,y43e,y43f]
             refine zbw (i:=4) (by kernel_rfl) ?_
             have z4OA:=OA.out.lt
             have z4OX:=OX.out.lt
             have z4OT:=OT.out.lt
             refine zcn (by rfl) (by rfl) (fun K hK=>?_)
             try simp only [y43a,y43b,y43c]
             (go_simp;go_at_call 65;(with_reducible refine (D1 _ _ SX.out.now.ls).out.mono ?_);rintro e wc2 ⟨v8,rfl,hr8,hb⟩;obtain ⟨o8,c8,ev8⟩:=hr8.len;generalize (s.store.filter (neB x.id)).length=n8 at ev8;subst ev8;have SS:=y43h ((OwnI.sure hr8 (fun i hi=>HO1.out i (List.mem_filter.1 hi).1)).mono (T':=fun b=>b < w.heap.size + 3) (fun b hb=>by have hb':b < w.heap.size + 3:=hb;show b < _;omega));clear hr8)
             try go_wp2_with fail
             refine hK.out _ _ (fun _=>hb) (But.of hb) ?_
             clear hK K
             replace OA:=y43h (OA.out.later hb)
             replace OX:=y43h (OX.out.later hb)
             replace OT:=y43h (OT.out.later hb)
             replace BEL:=y43h (BEL.out.trans (Below.mono hb BEL.out.size))
             replace SX:=y43h (SX.out.later hb)
             clear hb
             try simp only [Act.put,y43a,y43b,y43c,y43d,y43e,y43f]
             refine zat (i:=10) (v:=?_) rfl (by kernel_rfl) (by kernel_rfl) (by kernel_rfl) (fun _ _ _ h=>h) (Or.inl ⟨by rfl,?_⟩) ?_
             rotate_left 1
             · (intro wL hL;go_simp;try with_reducible rfl)
             try simp only [Act.put,y43a,y43b,y43c,y43d,y43e,y43f]
             refine zbw (i:=9) (by kernel_rfl) ?_
             have z9OA:=OA.out.lt
             have z9OX:=OX.out.lt
             have z9OT:=OT.out.lt
             refine zcn (by rfl) (by rfl) (fun K hK=>?_)
             try simp only [y43a,y43b,y43c]
             (go_simp;go_at_call 65;(with_reducible refine (D2 _ _ SX.out.now.lo).out.mono ?_);rintro e wc3 ⟨v9,rfl,hr9,hb⟩;obtain ⟨o9,c9,ev9⟩:=hr9.len;generalize (s.out.filter (neB x.id)).length=n9 at ev9;subst ev9;have SO:=y43h ((OwnI.sure hr9 (fun i hi=>HO2.out i (List.mem_filter.1 hi).1)).mono (T':=fun b=>b < w.heap.size + 3) (fun b hb=>by have hb':b < w.heap.size + 3:=hb;show b < _;omega));clear hr9)
             try go_wp2_with fail
             refine hK.out _ _ (fun _=>hb) (But.of hb) ?_
             clear hK K
             replace OA:=y43h (OA.out.later hb)
             replace OX:=y43h (OX.out.later hb)
             replace OT:=y43h (OT.out.later hb)
             replace BEL:=y43h (BEL.out.trans (Below.mono hb BEL.out.size))
             replace SX:=y43h (SX.out.later hb)
             replace SS:=y43h (SS.out.later hb)
             clear hb
             try simp only [Act.put,y43a,y43b,y43c,y43d,y43e,y43f]
             refine zbw (i:=11) (by kernel_rfl) ?_
             refine zdl (by rfl) (by rfl) (w.heap.size) (6) ((.slice o8 n8 c8)) OA.out (by have lL:=OA.out.cell;have fL:=OA.out.free;have zL:=OA.out.lt;go_simp;try rfl) (by rfl) (rfl) (fun ws hs ho=>?_)
             replace OX:=y43h (OX.out.stored hs (by omega))
             replace OT:=y43h (OT.out.stored hs (by omega))
             replace BEL:=y43h (hs.bel (by omega) BEL.out)
             replace SX:=y43h (SX.out.stored hs (by show _ < _;omega))
             replace SS:=y43h (SS.out.stored hs (by show _ < _;omega))
             replace SO:=y43h (SO.out.stored hs (by show _ < _;omega))
             replace OA:=y43h ho
             clear hs ho
             replace OA:=y43h (zet _ _ _ _ _ _ ▸ OA.out)
             try simp only [Act.put,y43a,y43b,y43c,y43d,y43e,y43f]
             refine zat (i:=12) (v:=?_) rfl (by kernel_rfl) (by kernel_rfl) (by kernel_rfl) (fun _ _ _ h=>h) (Or.inl ⟨by rfl,?_⟩) ?_
             rotate_left 1
             · (intro wL hL;go_simp;try with_reducible rfl)
             try simp only [Act.put,y43a,y43b,y43c,y43d,y43e,y43f]
             refine zbw (i:=13) (by kernel_rfl) ?_
             refine zdl (by rfl) (by rfl) (w.heap.size) (7) ((.slice o9 n9 c9)) OA.out (by have lL:=OA.out.cell;have fL:=OA.out.free;have zL:=OA.out.lt;go_simp;try rfl) (by rfl) (rfl) (fun ws hs ho=>?_)
             replace OX:=y43h (OX.out.stored hs (by omega))
             replace OT:=y43h (OT.out.stored hs (by omega))
             replace BEL:=y43h (hs.bel (by omega) BEL.out)
             replace SX:=y43h (SX.out.stored hs (by show _ < _;omega))
             replace SS:=y43h (SS.out.stored hs (by show _ < _;omega))
             replace SO:=y43h (SO.out.stored hs (by show _ < _;omega))
             replace OA:=y43h ho
             clear hs ho
             replace OA:=y43h (zj9 _ _ _ _ _ _ ▸ OA.out)
             try simp only [Act.put,y43a,y43b,y43c,y43d,y43e,y43f]
             refine zg2 (by kernel_rfl) ?_ _
             go_wp2_with fail
             go_meet
             exact ⟨o8,n8,c8,o9,n9,c9,y43h ⟨OA.out,OX.out,OT.out,BEL.out,fun w2 h2=>⟨(SX.out w2 h2).lf,SS.out w2 h2,SO.out w2 h2,(SX.out w2 h2).lk⟩⟩⟩
         case rest =>
           clear CX D1 D2
           obtain ⟨o8,n8,c8,o9,n9,c9,CX⟩:=hcut
           generalize wc=ww at *
           go_upto_if 93 with fail
           go_cut [97] (fun _ wx=>∃ (oz:Option Addr) (nz cz:Nat),Hid (RcX w (zli s x bh st) x (.slice o3 s.f.kids.length c3) (.slice oz nz cz) (.slice o9 n9 c9) (.slice o7 n7 c7) wx))
           case first =>
             cases st with
             | false =>
               go_wp2_with fail
               go_meet
               exact ⟨_,_,_,CX⟩
             | true =>
               have hbt:bh=true:=by have:=HSE.out;rw [Bool.and_eq_true] at this;exact this.1
               subst hbt
               have hrise:=y43h (show zap (zi2 s x true).store from zbg HG.out.rs)
               have hlen:=y43h (show (zi2 s x true).store.length≤1000 from Nat.le_trans (List.length_filter_le _ _) (Nat.le_trans HB.out.ls (by decide)))
               have lA:=CX.out.a.cell
               have zA:=CX.out.a.lt
               have fA:=CX.out.a.free
               go_wp2_with (first
                 | (refine wpList_load_mid (by rfl) 58 _ (by rfl) (w.heap.size + 1) 0 (by rfl) (ic x) _ (by exact CX.out.x.part 0 _ (by rfl)) Tryz.underlying58 (by rfl) (by kernel_rfl) ?_)
                 | (go_at_call 66;refine (CP _ _ _ CX.out.s.now.ls hrise.out hlen.out).out.mono ?_;rintro e wz ⟨vz,rfl,hrz,hb⟩;obtain ⟨oz,cz,evz⟩:=hrz.len;generalize (putI (zi2 s x true).store x).length=nz at evz;subst evz;have zt:=CX.out.t.lt;have SP:=y43h ((OwnI.sure hrz (fun i hi=>by rcases zed hi with h | h;exact CX.out.s.now.ls.oks i h;rw [h];exact HX.out)).mono (T':=fun b=>b < w.heap.size + 3) (fun b hb=>by have hb':b < w.heap.size + 3:=hb;show b < _;omega));clear lA zA fA hrz zt;replace CX:=y43h (CX.out.later hb);clear hb;have lA:=CX.out.a.cell;have zA:=CX.out.a.lt;have fA:=CX.out.a.free)
                 | fail)
               have HSR:=y43h (StoreR.sets w.heap.size [.slice oz nz cz] wz 6)
               have KEY:Hid (RcX w (zli s x true true) x (.slice o3 s.f.kids.length c3) (.slice oz nz cz) (.slice o9 n9 c9) (.slice o7 n7 c7) (wz.setCell ⟨w.heap.size,6,none⟩ (.slice oz nz cz))):=y43h ⟨(by have h:=CX.out.a.set 6 (.slice oz nz cz);rw [zet] at h;exact h),CX.out.x.stored HSR.out (by omega),CX.out.t.stored HSR.out (by omega),HSR.out.bel (Nat.le_refl _) CX.out.b,fun w2 h2=>⟨(CX.out.s.stored HSR.out (by show _ < _;omega) w2 h2).lf,SP.out.stored HSR.out (by show _ < _;omega) w2 h2,(CX.out.s.stored HSR.out (by show _ < _;omega) w2 h2).lo,(CX.out.s.stored HSR.out (by show _ < _;omega) w2 h2).lk⟩⟩
               clear CX HSR SP lA zA fA
               revert KEY
               generalize World.setCell _ _ _=W9
               intro KEY
               go_wp2_with fail
               go_meet
               exact ⟨_,_,_,KEY⟩
           case rest =>
             clear CX CP
             obtain ⟨oz,nz,cz,CX⟩:=hcut
             generalize wc=wk at *
             generalize zli s x bh st=u at *
             have lA:=CX.out.a.cell
             have zA:=CX.out.a.lt
             have lX:=CX.out.x.cell
             have zX:=CX.out.x.lt
             go_wp2_with (first
               | (refine wpList_load_mid (by rfl) 40 _ (by rfl) w.heap.size 0 (by rfl) (stA u (.slice o3 s.f.kids.length c3) (.slice oz nz cz) (.slice o9 n9 c9) (.slice o7 n7 c7)).toList _ (by exact CX.out.a.part 0 _ (by rfl)) Tryz.underlying40 (by rfl) (by kernel_rfl) ?_)
               | (refine wpList_store_mid (by rfl) 40 _ _ (by rfl) (w.heap.size + 2) 0 (stA u (.slice o3 s.f.kids.length c3) (.slice oz nz cz) (.slice o9 n9 c9) (.slice o7 n7 c7)) (by rfl) (by rfl) (by exact za0 CX.out.t 0 (by simp)) (by kernel_rfl) (by simp [Value.oneCell']) ?_)
               | fail)
             have HK:=y43h CX.out.fin
             clear lA zA lX zX
             revert HK
             generalize World.setCells _ _ _ _=WW
             intro HK
             try skip
             exact zab (by rfl) (by rfl) (by rfl) (l:=(stA u (.slice o3 s.f.kids.length c3) (.slice oz nz cz) (.slice o9 n9 c9) (.slice o7 n7 c7)).toList) HK.out.1.range Tryz.underlying40 (by rfl) (by kernel_rfl) rfl ⟨(.slice o3 s.f.kids.length c3),(.slice oz nz cz),(.slice o9 n9 c9),(.slice o7 n7 c7),by rw [eS.out,eE.out];rfl,by rw [eS.out];exact HK.out.2.1,HK.out.2.2⟩
end Go.Proofs.YtodfhabkdaiopaaGreat
