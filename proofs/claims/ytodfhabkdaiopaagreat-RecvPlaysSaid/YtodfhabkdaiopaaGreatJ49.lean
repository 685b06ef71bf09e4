/- Joined: RefItem. -/
import Derived.Test.YtodfhabkdaiopaaGreatJ48
import Derived.Test.YtodfhabkdaiopaaGreatJ26
import Derived.Test.YtodfhabkdaiopaaGreatJ15
namespace Go.Proofs.YtodfhabkdaiopaaGreat
set_option linter.unusedVariables false
set_option linter.unusedSimpArgs false
set_option maxRecDepth 100000
set_option maxHeartbeats 8000000
open Go Go.RowKit
theorem y49h {p:Prop} (h:p):Go.RowKit.Hid p:=Lib.hid h
section
variable {b B:Nat} {w w1:World}
theorem LPF.stored {p:Pr} {v:Value} (h:LPF w B p v) (hs:StoreR b w w1) (hb:b < B):LPF w1 B p v :=
 h.mono (fun b' o hS=>hs.but.cell hS.2 (by have:=hS.1;omega)) fun b' hS=>⟨hS.1,Nat.lt_of_lt_of_le hS.2 hs.size⟩
theorem RowF.stored {l:List Itm} {v:Value} (h:RowF w B l v) (hs:StoreR b w w1) (hb:b < B):RowF w1 B l v:=by
 obtain ⟨oa,cap,g,o,e,h,h2⟩:=h
 refine ⟨oa,cap,g,o,e,⟨h.len,h.max,fun h0=>⟨(h.at0 h0).1,Nat.lt_of_lt_of_le (h.at0 h0).2 hs.size⟩,fun k i hk j u hu=>?_,h.ok⟩,h2⟩
 have h0:0 < l.length:=by have:=zbo hk;omega
 exact (hs.but.cell (h.at0 h0).2 (by have:=h2 h0;omega)).trans (h.cell k i hk j u hu)
theorem FrFresh.stored {l:List Fr} {v:Value} (h:FrFresh w B l v) (hs:StoreR b w w1) (hb:b < B):FrFresh w1 B l v:=fun w2 h1 h2 =>
 h w2 (fun j hj hlt=>(h1 j hj (Nat.lt_of_lt_of_le hlt hs.size)).trans (hs.but.blk j hlt (by omega))) (Nat.le_trans hs.size h2)
theorem StN.stored {p:Pr} {pv:Value} {l:List Itm} {sv:Value} {m:List Itm} {ov:Value} {k:List Fr} {kv:Value} {U:St} {fv' sv' ov' kv':Value} (h:StN w B p pv l sv m ov k kv U fv' sv' ov' kv') (hs:StoreR b w w1) (hb:b < B):StN w1 B p pv l sv m ov k kv U fv' sv' ov' kv' :=
 ⟨h.f.imp id fun h=>h.stored hs hb,h.st.imp id fun h=>h.stored hs hb,h.ou.imp id fun h=>h.stored hs hb,h.k.imp id fun h=>h.stored hs hb⟩
end
structure RiX (w:World) (s:St) (x:Itm) (fv sv ov kv:Value) (U:St) (fv' sv' ov' kv':Value) (X:World):Prop where
 a:Own X w.heap.size (stA U fv' sv' ov' kv') 40
 x:Own X (w.heap.size + 1) (iA x) 58
 t:Own X (w.heap.size + 2) stZ.toArray 40
 b:Below w.heap.size w X
 n:StN X (w.heap.size + 3) s.f fv s.store sv s.out ov s.k.l kv U fv' sv' ov' kv'
 h:StW w s fv sv ov kv
section
variable {w X X':World} {s U:St} {x:Itm} {fv sv ov kv fv' sv' ov' kv':Value}
theorem RiX.later (h:RiX w s x fv sv ov kv U fv' sv' ov' kv' X) (hb:Below X.heap.size X X'):RiX w s x fv sv ov kv U fv' sv' ov' kv' X':=⟨h.a.later hb,h.x.later hb,h.t.later hb,h.b.trans (hb.mono h.b.size),h.n.later hb,h.h⟩
theorem RiX.lies (h:RiX w s x fv sv ov kv U fv' sv' ov' kv' X):StW X U fv' sv' ov' kv':=h.n.lies h.h.lf h.h.ls h.h.lo h.h.lk h.b
theorem RiX.fin (h:RiX w s x fv sv ov kv U fv' sv' ov' kv' X) :
   Own (X.setCells (w.heap.size + 2) 0 (stA U fv' sv' ov' kv').toList) (w.heap.size + 2) (stA U fv' sv' ov' kv').toList.toArray 40∧StN (X.setCells (w.heap.size + 2) 0 (stA U fv' sv' ov' kv').toList) w.heap.size s.f fv s.store sv s.out ov s.k.l kv U fv' sv' ov' kv'∧Below w.heap.size w (X.setCells (w.heap.size + 2) 0 (stA U fv' sv' ov' kv').toList):=by
 have hs:=StoreR.sets (w.heap.size + 2) (stA U fv' sv' ov' kv').toList X 0
 exact ⟨(zcc _ 0 h.t).whole (by rfl),(h.n.stored hs (by omega)).mono (by omega),hs.bel (by omega) h.b⟩
end
section
variable {s:St} {x:Itm}
theorem z0q (h:zbc s x=false):zax s x=s∧za8 s x=1:=by simp [zax,za8,h]
theorem zy5 (h:zbc s x=true) (h2:hasK s.k x.id x.r x.c=true):zax s x=s∧za8 s x=0:=by simp [zax,za8,h,h2]
theorem zww (h:zbc s x=true) (h2:hasK s.k x.id x.r x.c=false) (h3:zcj s x=true):zax s x=s∧za8 s x=4:=by simp [zax,za8,h,h2,h3]
theorem zy7 (h:zbc s x=true) (h2:hasK s.k x.id x.r x.c=false) (h3:zcj s x=false) (h4:newB s x=false):zax s x=preR s x∧za8 s x=0:=by simp [zax,za8,h,h2,h3,h4]
theorem zy6 (h:zbc s x=true) (h2:hasK s.k x.id x.r x.c=false) (h3:zcj s x=false) (h4:newB s x=true):zax s x=zbv (preR s x) x false∧za8 s x=0:=by simp [zax,za8,h,h2,h3,h4]
end
theorem zhq (s:St) (fv sv ov kv:Value) (x:Itm) (w:World) (hS:StW w s fv sv ov kv) (hB:StB s) (hx:x.id.size≤maxLen∧x.kd.size≤maxLen) :
   Calls Tryz.prog 18 #[stV s fv sv ov kv,iV x] w fun e w'=>Told numI s.f fv s sv ov kv (zax s x) (za8 s x) w e w':=by
 have hfl:=zbk s.k x.id x.r x.c
 have CM:=fun w'=>y49h (zhs x w' hx.1 hx.2)
 have CK:=fun a w' h=>y49h (zng s.k x.id x.r x.c a w' h)
 have CS:=fun a b c d w' h=>y49h (zde s a b c d x.id w' h (Nat.le_trans hB.ls (by decide)) (Nat.le_trans hB.lo (by decide)))
 have CH:=fun a w' h=>y49h (zkt x hx.1 s.f a w' h (Nat.le_trans hB.f (by decide)))
 have CW:=fun a w' h=>y49h (zdr s.k x.id x.r x.c a w' h hx.1 (by rw [hfl];exact Nat.le_trans (Nat.succ_le_succ hB.ki) (by decide)) (Nat.le_trans hB.kl (by decide)))
 have CL:=fun a b c d w' h=>y49h (ze3 (preR s x) a b c d x false w' h hx (Nat.le_trans (show (preR s x).f.size≤60 from hB.f) (by decide)) (Nat.le_trans (show (preR s x).store.length≤200 from hB.ls) (by decide)) (Nat.le_trans (show (preR s x).out.length≤200 from hB.lo) (by decide)))
 have hl1:=hB.ls
 have hl2:=hB.lo
 obtain ⟨⟨o3,c3,rfl⟩,⟨o4,c4,rfl⟩,⟨o5,c5,rfl⟩,⟨o6,c6,rfl⟩⟩:=hS.shape
 have HNO:=y49h (@z0q s x)
 have HHAD:=y49h (@zy5 s x)
 have HFULL:=y49h (@zww s x)
 have HOLD:=y49h (@zy7 s x)
 have HNEW:=y49h (@zy6 s x)
 have HCB:Hid (zbc s x=(mayT x && (!(decide (x.r=s.r)) || decide (x.c≤s.count)))):=rfl
 have HNB:Hid (newB s x=(!(zae s x.id).2 || behT x (zae s x.id).1)):=rfl
 have HFB:Hid (zcj s x=(newB s x && (hasT s.f x && (!(zae s x.id).2 && decide (s.store.length + s.out.length=40))))):=rfl
 generalize zax s x=RS at *
 generalize za8 s x=RE at *
 generalize zbc s x=cb at *
 generalize newB s x=nb at *
 generalize zcj s x=fl at *
 generalize hasT s.f x=hh at *
 generalize hasK s.k x.id x.r x.c=hk at *
 generalize mayT x=my at *
 have HS:=y49h hS
 have OA:=y49h (((Own.new w (stA s (.slice o3 s.f.kids.length c3) (.slice o4 s.store.length c4) (.slice o5 s.out.length c5) (.slice o6 s.k.l.length c6)) 40).alloc (.cells (iA x) 58)).alloc (.cells stZ.toArray 40))
 have OX:=y49h ((Own.newAt (w.alloc (.cells (stA s (.slice o3 s.f.kids.length c3) (.slice o4 s.store.length c4) (.slice o5 s.out.length c5) (.slice o6 s.k.l.length c6)) 40)) (iA x) 58 (b:=w.heap.size + 1) (by simp)).alloc (.cells stZ.toArray 40))
 have OT:=y49h (Own.newAt ((w.alloc (.cells (stA s (.slice o3 s.f.kids.length c3) (.slice o4 s.store.length c4) (.slice o5 s.out.length c5) (.slice o6 s.k.l.length c6)) 40)).alloc (.cells (iA x) 58)) stZ.toArray 40 (b:=w.heap.size + 2) (by simp))
 have BEL:=y49h ((((Below.refl w.heap.size w).alloc (Nat.le_refl _) (.cells (stA s (.slice o3 s.f.kids.length c3) (.slice o4 s.store.length c4) (.slice o5 s.out.length c5) (.slice o6 s.k.l.length c6)) 40)).alloc (by simp) (.cells (iA x) 58)).alloc (by simp;omega) (.cells stZ.toArray 40))
 clear hS hB hx hfl
 go_enter Tryz.func18,Tryz.ntmps18
 go_upto_region 1 with fail
 revert OA OX OT BEL
 generalize World.alloc (World.alloc (World.alloc _ _) _) _=W1
 intro OA OX OT BEL
 have CX:Hid (RiX w s x (.slice o3 s.f.kids.length c3) (.slice o4 s.store.length c4) (.slice o5 s.out.length c5) (.slice o6 s.k.l.length c6) s (.slice o3 s.f.kids.length c3) (.slice o4 s.store.length c4) (.slice o5 s.out.length c5) (.slice o6 s.k.l.length c6) W1):=y49h ⟨OA.out,OX.out,OT.out,BEL.out,⟨.inl ⟨rfl,rfl⟩,.inl ⟨rfl,rfl⟩,.inl ⟨rfl,rfl⟩,.inl ⟨rfl,rfl⟩⟩,HS.out⟩
 clear OA OX OT BEL HS
 try simp only [Act.put]
 have lA:=CX.out.a.cell
 have zA:=CX.out.a.lt
 have fA:=CX.out.a.free
 have lX:=CX.out.x.cell
 have zX:=CX.out.x.lt
 go_upto_region 2 with (first
   | (refine wpList_load_mid (by rfl) 58 _ (by rfl) (w.heap.size + 1) 0 (by rfl) (ic x) _ (by exact CX.out.x.part 0 _ (by rfl)) Tryz.underlying58 (by rfl) (by kernel_rfl) ?_)
   | (go_at_call 67;refine (CM _).out.mono ?_;rintro e wy ⟨rfl,hb⟩;clear lA zA fA lX zX;replace CX:=y49h (CX.out.later hb);clear hb;have lA:=CX.out.a.cell;have zA:=CX.out.a.lt;have fA:=CX.out.a.free;have lX:=CX.out.x.cell;have zX:=CX.out.x.lt)
   | fail)
 clear CM
 have CX2:=CX
 revert CX2
 generalize wy=W2 at *
 intro CX2
 clear CX2
 go_cut [30] (fun s30 ws=>s30=.bool (!cb)∧Hid (W2=ws))
 case first =>
   have ways:my=false ∨ (my=true∧¬ x.r=s.r) ∨ (my=true∧x.r=s.r∧x.c≤s.count) ∨ (my=true∧x.r=s.r∧s.count < x.c):=by
     cases my
     · exact .inl rfl
     · by_cases h1:x.r=s.r
       · by_cases h2:x.c≤s.count
         · exact .inr (.inr (.inl ⟨rfl,h1,h2⟩))
         · exact .inr (.inr (.inr ⟨rfl,h1,by omega⟩))
       · exact .inr (.inl ⟨rfl,h1⟩)
   rcases ways with rfl | ⟨rfl,hne⟩ | ⟨rfl,h1,h2⟩ | ⟨rfl,h1,h2⟩
   · have e:=y49h (show cb=false by rw [HCB.out];rfl)
     go_wp2_with fail
     go_meet
     exact ⟨by rw [e.out];rfl,rfl⟩
   · have e:=y49h (show cb=true by rw [HCB.out];simp [hne])
     clear lA zA fA lX zX
     have l00:W2.cell? ⟨w.heap.size,0,none⟩=some (.int .i64 s.r):=CX.out.a.cell 0
     have n00:W2.cell? ⟨w.heap.size + 1,1,none⟩=some (.int .i64 x.r):=CX.out.x.cell 1
     have q1:(x.r == s.r)=false:=by rw [beq_eq_false_iff_ne];exact hne
     go_wp2_with fail
     go_meet
     exact ⟨by rw [e.out];rfl,rfl⟩
   · have e:=y49h (show cb=true by rw [HCB.out];simp [h2])
     clear lA zA fA lX zX
     have l00:W2.cell? ⟨w.heap.size,0,none⟩=some (.int .i64 s.r):=CX.out.a.cell 0
     have l17:W2.cell? ⟨w.heap.size,17,none⟩=some (.int .i64 s.count):=CX.out.a.cell 17
     have n00:W2.cell? ⟨w.heap.size + 1,1,none⟩=some (.int .i64 s.r):=h1 ▸ CX.out.x.cell 1
     have n01:W2.cell? ⟨w.heap.size + 1,2,none⟩=some (.int .i64 x.c):=CX.out.x.cell 2
     have q2:decide (s.count < x.c)=false:=decide_eq_false (by omega)
     clear h1
     go_wp2_with fail
     go_meet
     exact ⟨by rw [e.out];rfl,rfl⟩
   · have e:=y49h (show cb=false by rw [HCB.out];simp [h1];omega)
     clear lA zA fA lX zX
     have l00:W2.cell? ⟨w.heap.size,0,none⟩=some (.int .i64 s.r):=CX.out.a.cell 0
     have l17:W2.cell? ⟨w.heap.size,17,none⟩=some (.int .i64 s.count):=CX.out.a.cell 17
     have n00:W2.cell? ⟨w.heap.size + 1,1,none⟩=some (.int .i64 s.r):=h1 ▸ CX.out.x.cell 1
     have n01:W2.cell? ⟨w.heap.size + 1,2,none⟩=some (.int .i64 x.c):=CX.out.x.cell 2
     have q2:decide (s.count < x.c)=true:=decide_eq_true h2
     clear h1
     go_wp2_with fail
     go_meet
     exact ⟨by rw [e.out];rfl,rfl⟩
 case rest =>
 obtain ⟨rfl,hw⟩:=hcut
 have ew:=hw.out
 subst ew
 clear hw HCB
 cases cb
 case false =>
   have eS:=y49h (HNO.out rfl).1
   have eE:=y49h (HNO.out rfl).2
   clear HNO HHAD HFULL HOLD HNEW
   go_wp2_with (first
     | (refine wpList_load_mid (by rfl) 40 _ (by rfl) w.heap.size 0 (by rfl) (stA s (.slice o3 s.f.kids.length c3) (.slice o4 s.store.length c4) (.slice o5 s.out.length c5) (.slice o6 s.k.l.length c6)).toList _ (by exact CX.out.a.part 0 _ (by rfl)) Tryz.underlying40 (by rfl) (by kernel_rfl) ?_)
     | (refine wpList_store_mid (by rfl) 40 _ _ (by rfl) (w.heap.size + 2) 0 (stA s (.slice o3 s.f.kids.length c3) (.slice o4 s.store.length c4) (.slice o5 s.out.length c5) (.slice o6 s.k.l.length c6)) (by rfl) (by rfl) (by exact za0 CX.out.t 0 (by simp)) (by kernel_rfl) (by simp [Value.oneCell']) ?_)
     | fail)
   have HK:=y49h CX.out.fin
   clear lA zA fA lX zX
   revert HK
   generalize World.setCells _ _ _ _=WW
   intro HK
   skip
   exact zab (by rfl) (by rfl) (by rfl) (l:=(stA s (.slice o3 s.f.kids.length c3) (.slice o4 s.store.length c4) (.slice o5 s.out.length c5) (.slice o6 s.k.l.length c6)).toList) HK.out.1.range Tryz.underlying40 (by rfl) (by kernel_rfl) rfl ⟨(.slice o3 s.f.kids.length c3),(.slice o4 s.store.length c4),(.slice o5 s.out.length c5),(.slice o6 s.k.l.length c6),by rw [eS.out,eE.out];rfl,by rw [eS.out];exact HK.out.2.1,HK.out.2.2⟩
 clear HNO
 go_upto_if 38 with (first
   | (refine wpList_load_mid (by rfl) 38 _ (by rfl) w.heap.size 8 (by rfl) (knA s.k.star (.slice o6 s.k.l.length c6)).toList _ (by exact CX.out.a.part 8 _ (by rfl)) Tryz.underlying38 (by rfl) (by kernel_rfl) ?_)
   | (go_at_call 37;refine (CK _ _ CX.out.lies.lk).out.mono ?_;rintro e wy ⟨rfl,hb⟩;clear lA zA fA lX zX;replace CX:=y49h (CX.out.later hb);clear hb;have lA:=CX.out.a.cell;have zA:=CX.out.a.lt;have fA:=CX.out.a.free;have lX:=CX.out.x.cell;have zX:=CX.out.x.lt)
   | fail)
 clear CK
 cases hk
 case true =>
   have eS:=y49h (HHAD.out (by first | trivial | rfl) (by first | trivial | rfl)).1
   have eE:=y49h (HHAD.out (by first | trivial | rfl) (by first | trivial | rfl)).2
   clear HHAD HFULL HOLD HNEW
   go_wp2_with (first
     | (refine wpList_load_mid (by rfl) 40 _ (by rfl) w.heap.size 0 (by rfl) (stA s (.slice o3 s.f.kids.length c3) (.slice o4 s.store.length c4) (.slice o5 s.out.length c5) (.slice o6 s.k.l.length c6)).toList _ (by exact CX.out.a.part 0 _ (by rfl)) Tryz.underlying40 (by rfl) (by kernel_rfl) ?_)
     | (refine wpList_store_mid (by rfl) 40 _ _ (by rfl) (w.heap.size + 2) 0 (stA s (.slice o3 s.f.kids.length c3) (.slice o4 s.store.length c4) (.slice o5 s.out.length c5) (.slice o6 s.k.l.length c6)) (by rfl) (by rfl) (by exact za0 CX.out.t 0 (by simp)) (by kernel_rfl) (by simp [Value.oneCell']) ?_)
     | fail)
   have HK:=y49h CX.out.fin
   clear lA zA fA lX zX
   revert HK
   generalize World.setCells _ _ _ _=WW
   intro HK
   skip
   exact zab (by rfl) (by rfl) (by rfl) (l:=(stA s (.slice o3 s.f.kids.length c3) (.slice o4 s.store.length c4) (.slice o5 s.out.length c5) (.slice o6 s.k.l.length c6)).toList) HK.out.1.range Tryz.underlying40 (by rfl) (by kernel_rfl) rfl ⟨(.slice o3 s.f.kids.length c3),(.slice o4 s.store.length c4),(.slice o5 s.out.length c5),(.slice o6 s.k.l.length c6),by rw [eS.out,eE.out];rfl,by rw [eS.out];exact HK.out.2.1,HK.out.2.2⟩
 clear HHAD
 generalize hst:zae s x.id=yt at *
 obtain ⟨y,th⟩:=yt
 have HST:=y49h hst
 clear hst
 go_upto_region 7 with (first
   | (refine wpList_load_mid (by rfl) 40 _ (by rfl) w.heap.size 0 (by rfl) (stA s (.slice o3 s.f.kids.length c3) (.slice o4 s.store.length c4) (.slice o5 s.out.length c5) (.slice o6 s.k.l.length c6)).toList _ (by exact CX.out.a.part 0 _ (by rfl)) Tryz.underlying40 (by rfl) (by kernel_rfl) ?_)
   | (go_at_call 68;refine (CS _ _ _ _ _ CX.out.lies).out.mono ?_;rintro e wg ⟨rfl,hb⟩;clear lA zA fA lX zX;replace CX:=y49h (CX.out.later hb);clear hb;have lA:=CX.out.a.cell;have zA:=CX.out.a.lt;have fA:=CX.out.a.free;have lX:=CX.out.x.cell;have zX:=CX.out.x.lt;have OY:=y49h (Own.new wg (iA y) 58))
   | fail)
 clear CS
 clear lA zA fA lX zX
 have CX2:Hid (RiX w s x (.slice o3 s.f.kids.length c3) (.slice o4 s.store.length c4) (.slice o5 s.out.length c5) (.slice o6 s.k.l.length c6) s (.slice o3 s.f.kids.length c3) (.slice o4 s.store.length c4) (.slice o5 s.out.length c5) (.slice o6 s.k.l.length c6) (wg.alloc (.cells (iA y) 58))):=y49h (CX.out.later ((Below.refl _ _).alloc (Nat.le_refl _) _))
 have zt:=CX.out.t.lt
 clear CX
 have CX:=CX2
 clear CX2
 revert CX
 revert OY
 generalize World.alloc _ _=W4
 generalize wg.heap.size=by_ at *
 intro OY CX
 try simp only [Act.put]
 have lA:=CX.out.a.cell
 have zA:=CX.out.a.lt
 have fA:=CX.out.a.free
 have lX:=CX.out.x.cell
 have zX:=CX.out.x.lt
 have lY:=OY.out.cell
 have zY:=OY.out.lt
 generalize hbh:behT x y=bh at *
 have HBH:=y49h hbh
 clear hbh
 go_upto_region 8 with fail
 go_cut [53] (fun s53 ws=>s53=.bool (th && bh)∧Hid (RiX w s x (.slice o3 s.f.kids.length c3) (.slice o4 s.store.length c4) (.slice o5 s.out.length c5) (.slice o6 s.k.l.length c6) s (.slice o3 s.f.kids.length c3) (.slice o4 s.store.length c4) (.slice o5 s.out.length c5) (.slice o6 s.k.l.length c6) ws))
 case first =>
   cases th
   · go_wp2_with fail
     go_meet
     exact ⟨rfl,CX.out⟩
   · go_wp2_with (first
       | (go_at_call 69;refine (y49h (zgp x y _)).out.mono ?_;rintro e wy ⟨rfl,hb⟩;clear lA zA fA lX zX;clear lY zY;replace CX:=y49h (CX.out.later hb);clear hb;have lA:=CX.out.a.cell;have zA:=CX.out.a.lt;have fA:=CX.out.a.free;have lX:=CX.out.x.cell;have zX:=CX.out.x.lt)
       | fail)
     go_meet
     exact ⟨by rw [HBH.out];rfl,CX.out⟩
 case rest =>
 clear lA zA fA lX zX
 clear lY zY OY CX zt
 obtain ⟨rfl,hw⟩:=hcut
 have CX:=y49h hw.out
 clear hw
 try simp only [Act.put]
 have lA:=CX.out.a.cell
 have zA:=CX.out.a.lt
 have fA:=CX.out.a.free
 have lX:=CX.out.x.cell
 have zX:=CX.out.x.lt
 go_upto_if 53 with fail
 go_cut [9] (fun s9 ws=>s9=.bool (!nb)∧Hid (RiX w s x (.slice o3 s.f.kids.length c3) (.slice o4 s.store.length c4) (.slice o5 s.out.length c5) (.slice o6 s.k.l.length c6) s (.slice o3 s.f.kids.length c3) (.slice o4 s.store.length c4) (.slice o5 s.out.length c5) (.slice o6 s.k.l.length c6) ws))
 case first =>
   have e:=y49h (show (!nb)=(th && !bh) by rw [HNB.out];cases th <;> cases bh <;> rfl)
   cases th
   · go_wp2_with fail
     all_goals
       go_meet
       exact ⟨by rw [e.out];rfl,CX.out⟩
   · cases bh
     · go_wp2_with fail
       go_meet
       exact ⟨by rw [e.out];rfl,CX.out⟩
     · go_wp2_with fail
       go_meet
       exact ⟨by rw [e.out];rfl,CX.out⟩
 case rest =>
 clear lA zA fA lX zX
 clear CX
 obtain ⟨rfl,hw⟩:=hcut
 have CX:=y49h hw.out
 clear hw
 try simp only [Act.put]
 have lA:=CX.out.a.cell
 have zA:=CX.out.a.lt
 have fA:=CX.out.a.free
 have lX:=CX.out.x.cell
 have zX:=CX.out.x.lt
 go_upto_region 11 with (first
   | (refine wpList_load_mid (by rfl) 32 _ (by rfl) w.heap.size 1 (by rfl) [.int .i64 s.f.op,.string s.f.text,.int .i64 s.f.n,.complex .f64 s.f.x s.f.y,(.slice o3 s.f.kids.length c3)] _ (by exact CX.out.a.part 1 _ (by rfl)) Tryz.underlying32 (by rfl) (by kernel_rfl) ?_)
   | (refine wpList_load_mid (by rfl) 58 _ (by rfl) (w.heap.size + 1) 0 (by rfl) (ic x) _ (by exact CX.out.x.part 0 _ (by rfl)) Tryz.underlying58 (by rfl) (by kernel_rfl) ?_)
   | (go_at_call 38;refine (CH _ _ CX.out.lies.lf).out.mono ?_;rintro e wy ⟨rfl,hb⟩;clear lA zA fA lX zX;replace CX:=y49h (CX.out.later hb);clear hb;have lA:=CX.out.a.cell;have zA:=CX.out.a.lt;have fA:=CX.out.a.free;have lX:=CX.out.x.cell;have zX:=CX.out.x.lt)
   | fail)
 clear CH
 go_cut [76] (fun s76 ws=>s76=.bool fl∧Hid (RiX w s x (.slice o3 s.f.kids.length c3) (.slice o4 s.store.length c4) (.slice o5 s.out.length c5) (.slice o6 s.k.l.length c6) s (.slice o3 s.f.kids.length c3) (.slice o4 s.store.length c4) (.slice o5 s.out.length c5) (.slice o6 s.k.l.length c6) ws))
 case first =>
   have hF:fl=(nb && (hh && (!th && decide (s.store.length + s.out.length=40)))):=HFB.out
   have HF:=y49h hF
   clear hF
   cases nb
   · go_wp2_with fail
     go_meet
     exact ⟨by rw [HF.out];rfl,CX.out⟩
   · cases hh
     · go_wp2_with fail
       go_meet
       exact ⟨by rw [HF.out];rfl,CX.out⟩
     · cases th
       · by_cases h40:s.store.length + s.out.length=40
         · have q1:((s.store.length:Int) + (s.out.length:Int) == 40)=true:=by rw [beq_iff_eq];omega
           have e:=y49h (show fl=true by rw [HF.out,decide_eq_true h40];rfl)
           clear h40
           go_wp2_with fail
           go_meet
           exact ⟨by rw [e.out],CX.out⟩
         · have q1:((s.store.length:Int) + (s.out.length:Int) == 40)=false:=by rw [beq_eq_false_iff_ne];omega
           have e:=y49h (show fl=false by rw [HF.out,decide_eq_false h40];rfl)
           clear h40
           go_wp2_with fail
           go_meet
           exact ⟨by rw [e.out],CX.out⟩
       · go_wp2_with fail
         go_meet
         exact ⟨by rw [HF.out];rfl,CX.out⟩
 case rest =>
 clear lA zA fA lX zX
 clear CX
 obtain ⟨rfl,hw⟩:=hcut
 have CX:=y49h hw.out
 clear hw HFB HNB HST HBH
 try simp only [Act.put]
 have lA:=CX.out.a.cell
 have zA:=CX.out.a.lt
 have fA:=CX.out.a.free
 have lX:=CX.out.x.cell
 have zX:=CX.out.x.lt
 cases fl
 case true =>
   have eS:=y49h (HFULL.out (by first | trivial | rfl) (by first | trivial | rfl) (by first | trivial | rfl)).1
   have eE:=y49h (HFULL.out (by first | trivial | rfl) (by first | trivial | rfl) (by first | trivial | rfl)).2
   clear HFULL HOLD HNEW
   go_wp2_with (first
     | (refine wpList_load_mid (by rfl) 40 _ (by rfl) w.heap.size 0 (by rfl) (stA s (.slice o3 s.f.kids.length c3) (.slice o4 s.store.length c4) (.slice o5 s.out.length c5) (.slice o6 s.k.l.length c6)).toList _ (by exact CX.out.a.part 0 _ (by rfl)) Tryz.underlying40 (by rfl) (by kernel_rfl) ?_)
     | (refine wpList_store_mid (by rfl) 40 _ _ (by rfl) (w.heap.size + 2) 0 (stA s (.slice o3 s.f.kids.length c3) (.slice o4 s.store.length c4) (.slice o5 s.out.length c5) (.slice o6 s.k.l.length c6)) (by rfl) (by rfl) (by exact za0 CX.out.t 0 (by simp)) (by kernel_rfl) (by simp [Value.oneCell']) ?_)
     | fail)
   have HK:=y49h CX.out.fin
   clear lA zA fA lX zX
   revert HK
   generalize World.setCells _ _ _ _=WW
   intro HK
   skip
   exact zab (by rfl) (by rfl) (by rfl) (l:=(stA s (.slice o3 s.f.kids.length c3) (.slice o4 s.store.length c4) (.slice o5 s.out.length c5) (.slice o6 s.k.l.length c6)).toList) HK.out.1.range Tryz.underlying40 (by rfl) (by kernel_rfl) rfl ⟨(.slice o3 s.f.kids.length c3),(.slice o4 s.store.length c4),(.slice o5 s.out.length c5),(.slice o6 s.k.l.length c6),by rw [eS.out,eE.out];rfl,by rw [eS.out];exact HK.out.2.1,HK.out.2.2⟩
 clear HFULL
 go_upto_region 14 with (first
   | (refine wpList_load_mid (by rfl) 38 _ (by rfl) w.heap.size 8 (by rfl) (knA s.k.star (.slice o6 s.k.l.length c6)).toList _ (by exact CX.out.a.part 8 _ (by rfl)) Tryz.underlying38 (by rfl) (by kernel_rfl) ?_)
   | (go_at_call 70;refine (CW _ _ CX.out.lies.lk).out.mono ?_;rintro e e7w ⟨v7,rfl,hf7,hb⟩;obtain ⟨o7,c7,ev7⟩:=hf7.fr.val;generalize (zah (zal s.k x.id x.r x.c)).l.length=n7 at ev7;subst ev7;have zt:=CX.out.t.lt;have SK:=y49h (hf7.mono (B':=w.heap.size + 3) (by omega));clear lA zA fA lX zX;clear hf7 zt;replace CX:=y49h (CX.out.later hb);clear hb;have lA:=CX.out.a.cell;have zA:=CX.out.a.lt;have fA:=CX.out.a.free;have lX:=CX.out.x.cell;have zX:=CX.out.x.lt)
   | (refine wpList_store_mid (by rfl) 38 _ _ (by rfl) w.heap.size 8 (knA s.k.star (.slice o7 n7 c7)) (by rfl) (by rfl) (by exact za0 CX.out.a 8 (by simp)) (by kernel_rfl) (by simp [Value.oneCell']) ?_)
   | fail)
 have HSR:=y49h (StoreR.sets w.heap.size (knA s.k.star (.slice o7 n7 c7)).toList e7w 8)
 have KEY:Hid (RiX w s x (.slice o3 s.f.kids.length c3) (.slice o4 s.store.length c4) (.slice o5 s.out.length c5) (.slice o6 s.k.l.length c6) ⟨s.r,s.f,s.store,s.out,⟨s.k.star,(zah (zal s.k x.id x.r x.c)).l⟩,s.count,s.clock,s.epoch⟩ (.slice o3 s.f.kids.length c3) (.slice o4 s.store.length c4) (.slice o5 s.out.length c5) (.slice o7 n7 c7) (e7w.setCells w.heap.size 8 (knA s.k.star (.slice o7 n7 c7)).toList)):=y49h ⟨(by have h:=zcc (knA s.k.star (.slice o7 n7 c7)).toList 8 CX.out.a;rw [zfq s s.k.star (zah (zal s.k x.id x.r x.c)).l] at h;exact h),CX.out.x.stored HSR.out (by omega),CX.out.t.stored HSR.out (by omega),HSR.out.bel (Nat.le_refl _) CX.out.b,⟨.inl ⟨rfl,rfl⟩,.inl ⟨rfl,rfl⟩,.inl ⟨rfl,rfl⟩,.inr (SK.out.stored HSR.out (by omega))⟩,CX.out.h⟩
 clear CX HSR SK CW
 clear lA zA fA lX zX
 revert KEY
 generalize World.setCells _ _ _ _=W11
 intro CX
 try simp only [Act.put]
 have lA:=CX.out.a.cell
 have zA:=CX.out.a.lt
 have fA:=CX.out.a.free
 have lX:=CX.out.x.cell
 have zX:=CX.out.x.lt
 go_upto_if 90 with fail
 generalize hcq:decide (s.clock < x.st)=cq at *
 have HCQ:=y49h hcq
 clear hcq
 go_cut [] (fun ws=>Hid (RiX w s x (.slice o3 s.f.kids.length c3) (.slice o4 s.store.length c4) (.slice o5 s.out.length c5) (.slice o6 s.k.l.length c6) (preR s x) (.slice o3 s.f.kids.length c3) (.slice o4 s.store.length c4) (.slice o5 s.out.length c5) (.slice o7 n7 c7) ws))
 case first =>
   cases cq
   case true =>
     have hst:=of_decide_eq_true HCQ.out
     have hm:max s.clock x.st=x.st:=by omega
     have KEY:∀ ws,StoreR w.heap.size W11 ws→Own ws w.heap.size ((stA ⟨s.r,s.f,s.store,s.out,⟨s.k.star,(zah (zal s.k x.id x.r x.c)).l⟩,s.count,s.clock,s.epoch⟩ (.slice o3 s.f.kids.length c3) (.slice o4 s.store.length c4) (.slice o5 s.out.length c5) (.slice o7 n7 c7)).setIfInBounds 18 (.int .i64 x.st)) 40→Hid (RiX w s x (.slice o3 s.f.kids.length c3) (.slice o4 s.store.length c4) (.slice o5 s.out.length c5) (.slice o6 s.k.l.length c6) (preR s x) (.slice o3 s.f.kids.length c3) (.slice o4 s.store.length c4) (.slice o5 s.out.length c5) (.slice o7 n7 c7) ws):=fun ws hs ho=>y49h ⟨(by rw [zu0] at ho;unfold preR;rw [hm];exact ho),CX.out.x.stored hs (by omega),CX.out.t.stored hs (by omega),hs.bel (Nat.le_refl _) CX.out.b,⟨.inl ⟨rfl,rfl⟩,.inl ⟨rfl,rfl⟩,.inl ⟨rfl,rfl⟩,(CX.out.n.stored hs (by omega)).k⟩,CX.out.h⟩
     have HK:=y49h (KEY _ (StoreR.sets w.heap.size [.int .i64 x.st] W11 18) (CX.out.a.set 18 (.int .i64 x.st)))
     clear KEY hm hst
     go_wp2_with fail
     go_meet
     exact HK.out
   case false =>
     have hst:=of_decide_eq_false HCQ.out
     have hm:max s.clock x.st=s.clock:=by omega
     have HK:Hid (RiX w s x (.slice o3 s.f.kids.length c3) (.slice o4 s.store.length c4) (.slice o5 s.out.length c5) (.slice o6 s.k.l.length c6) (preR s x) (.slice o3 s.f.kids.length c3) (.slice o4 s.store.length c4) (.slice o5 s.out.length c5) (.slice o7 n7 c7) W11):=y49h ⟨(by unfold preR;rw [hm];exact CX.out.a),CX.out.x,CX.out.t,CX.out.b,⟨.inl ⟨rfl,rfl⟩,.inl ⟨rfl,rfl⟩,.inl ⟨rfl,rfl⟩,CX.out.n.k⟩,CX.out.h⟩
     clear hm hst
     go_wp2_with fail
     go_meet
     exact HK.out
 case rest =>
 clear lA zA fA lX zX
 clear CX
 have CX:=y49h hcut.out
 clear hcut
 cases nb
 case false =>
   have eS:=y49h (HOLD.out (by first | trivial | rfl) (by first | trivial | rfl) (by first | trivial | rfl) (by first | trivial | rfl)).1
   have eE:=y49h (HOLD.out (by first | trivial | rfl) (by first | trivial | rfl) (by first | trivial | rfl) (by first | trivial | rfl)).2
   clear HOLD HNEW
   have lA:=CX.out.a.cell;have zA:=CX.out.a.lt;have fA:=CX.out.a.free;have lX:=CX.out.x.cell;have zX:=CX.out.x.lt
   go_wp2_with (first
     | (refine wpList_load_mid (by rfl) 40 _ (by rfl) w.heap.size 0 (by rfl) (stA (preR s x) (.slice o3 s.f.kids.length c3) (.slice o4 s.store.length c4) (.slice o5 s.out.length c5) (.slice o7 n7 c7)).toList _ (by exact CX.out.a.part 0 _ (by rfl)) Tryz.underlying40 (by rfl) (by kernel_rfl) ?_)
     | (refine wpList_store_mid (by rfl) 40 _ _ (by rfl) (w.heap.size + 2) 0 (stA (preR s x) (.slice o3 s.f.kids.length c3) (.slice o4 s.store.length c4) (.slice o5 s.out.length c5) (.slice o7 n7 c7)) (by rfl) (by rfl) (by exact za0 CX.out.t 0 (by simp)) (by kernel_rfl) (by simp [Value.oneCell']) ?_)
     | fail)
   have HK:=y49h CX.out.fin
   clear lA zA fA lX zX
   revert HK
   generalize World.setCells _ _ _ _=WW
   intro HK
   skip
   exact zab (by rfl) (by rfl) (by rfl) (l:=(stA (preR s x) (.slice o3 s.f.kids.length c3) (.slice o4 s.store.length c4) (.slice o5 s.out.length c5) (.slice o7 n7 c7)).toList) HK.out.1.range Tryz.underlying40 (by rfl) (by kernel_rfl) rfl ⟨(.slice o3 s.f.kids.length c3),(.slice o4 s.store.length c4),(.slice o5 s.out.length c5),(.slice o7 n7 c7),by rw [eS.out,eE.out];rfl,by rw [eS.out];exact HK.out.2.1,HK.out.2.2⟩
 have eS:=y49h (HNEW.out (by first | trivial | rfl) (by first | trivial | rfl) (by first | trivial | rfl) (by first | trivial | rfl)).1
 have eE:=y49h (HNEW.out (by first | trivial | rfl) (by first | trivial | rfl) (by first | trivial | rfl) (by first | trivial | rfl)).2
 clear HOLD HNEW
 have lA:=CX.out.a.cell;have zA:=CX.out.a.lt;have fA:=CX.out.a.free;have lX:=CX.out.x.cell;have zX:=CX.out.x.lt
 go_wp2_with (first
   | (refine wpList_load_mid (by rfl) 40 _ (by rfl) w.heap.size 0 (by rfl) (stA (preR s x) (.slice o3 s.f.kids.length c3) (.slice o4 s.store.length c4) (.slice o5 s.out.length c5) (.slice o7 n7 c7)).toList _ (by exact CX.out.a.part 0 _ (by rfl)) Tryz.underlying40 (by rfl) (by kernel_rfl) ?_)
   | (refine wpList_load_mid (by rfl) 58 _ (by rfl) (w.heap.size + 1) 0 (by rfl) (ic x) _ (by exact CX.out.x.part 0 _ (by rfl)) Tryz.underlying58 (by rfl) (by kernel_rfl) ?_)
   | (go_at_call 71;refine (CL _ _ _ _ _ CX.out.lies).out.mono ?_;rintro e wl ⟨sv9,ov9,rfl,⟨hs9,hr9,hq9⟩,hb⟩;obtain ⟨_,⟨o8,c8,rfl⟩,⟨o9,c9,rfl⟩,_⟩:=hs9.shape;generalize (zbv (preR s x) x false).store.length=n8 at *;generalize (zbv (preR s x) x false).out.length=n9 at *;have zt:=CX.out.t.lt;have R8:=y49h (hr9.mono (B':=w.heap.size + 3) (by omega));have R9:=y49h (hq9.mono (B':=w.heap.size + 3) (by omega));clear lA zA fA lX zX;clear hs9 hr9 hq9 zt;replace CX:=y49h (CX.out.later hb);clear hb;have lA:=CX.out.a.cell;have zA:=CX.out.a.lt;have fA:=CX.out.a.free;have lX:=CX.out.x.cell;have zX:=CX.out.x.lt)
   | (refine wpList_store_mid (by rfl) 40 _ _ (by rfl) (w.heap.size + 2) 0 (stA (zbv (preR s x) x false) (.slice o3 s.f.kids.length c3) (.slice o8 n8 c8) (.slice o9 n9 c9) (.slice o7 n7 c7)) (by rfl) (by rfl) (by exact za0 CX.out.t 0 (by simp)) (by kernel_rfl) (by simp [Value.oneCell']) ?_)
   | fail)
 have HSR:=y49h (StoreR.sets (w.heap.size + 2) (stA (zbv (preR s x) x false) (.slice o3 s.f.kids.length c3) (.slice o8 n8 c8) (.slice o9 n9 c9) (.slice o7 n7 c7)).toList wl 0)
 have HO:=y49h ((zcc (stA (zbv (preR s x) x false) (.slice o3 s.f.kids.length c3) (.slice o8 n8 c8) (.slice o9 n9 c9) (.slice o7 n7 c7)).toList 0 CX.out.t).whole (by rfl))
 have HN:=y49h (show StN (wl.setCells (w.heap.size + 2) 0 (stA (zbv (preR s x) x false) (.slice o3 s.f.kids.length c3) (.slice o8 n8 c8) (.slice o9 n9 c9) (.slice o7 n7 c7)).toList) w.heap.size s.f (.slice o3 s.f.kids.length c3) s.store (.slice o4 s.store.length c4) s.out (.slice o5 s.out.length c5) s.k.l (.slice o6 s.k.l.length c6) (zbv (preR s x) x false) (.slice o3 s.f.kids.length c3) (.slice o8 n8 c8) (.slice o9 n9 c9) (.slice o7 n7 c7) from StN.mono (B:=w.heap.size + 3) ⟨.inl ⟨rfl,rfl⟩,.inr (R8.out.stored HSR.out (by omega)),.inr (R9.out.stored HSR.out (by omega)),(CX.out.n.stored HSR.out (by omega)).k⟩ (by omega))
 have HBB:=y49h (HSR.out.bel (B:=w.heap.size) (w0:=w) (by omega) CX.out.b)
 clear HSR R8 R9 CX CL
 clear lA zA fA lX zX
 revert HO HN HBB
 generalize World.setCells _ _ _ _=WW
 intro HO HN HBB
 exact zab (by rfl) (by rfl) (by rfl) (l:=(stA (zbv (preR s x) x false) (.slice o3 s.f.kids.length c3) (.slice o8 n8 c8) (.slice o9 n9 c9) (.slice o7 n7 c7)).toList) HO.out.range Tryz.underlying40 (by rfl) (by kernel_rfl) rfl ⟨(.slice o3 s.f.kids.length c3),.slice o8 n8 c8,.slice o9 n9 c9,(.slice o7 n7 c7),by rw [eS.out,eE.out];rfl,by rw [eS.out];exact HN.out,HBB.out⟩
end Go.Proofs.YtodfhabkdaiopaaGreat
