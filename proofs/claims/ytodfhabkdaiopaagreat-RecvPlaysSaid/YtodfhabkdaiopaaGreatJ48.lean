/- Joined: RefGoes. -/
import Derived.Test.YtodfhabkdaiopaaGreatJ44
import Derived.Test.YtodfhabkdaiopaaGreatJ06
import Derived.Test.YtodfhabkdaiopaaGreatJ27
namespace Go.Proofs.YtodfhabkdaiopaaGreat
set_option linter.unusedVariables false
set_option linter.unusedSimpArgs false
set_option maxRecDepth 100000
set_option maxHeartbeats 8000000
open Go Go.RowKit
theorem y48h {p:Prop} (h:p):Go.RowKit.Hid p:=Lib.hid h
abbrev TB (T0:Nat→Prop) (w:World):Nat→Prop:=fun b=>T0 b ∨ (w.heap.size≤b∧b < w.heap.size + 4)
structure RgX (T0:Nat→Prop) (w:World) (s:St) (r c r2 q2:Int) (fv sv ov kv:Value) (X:World):Prop where
 a:Own X w.heap.size (stA s fv sv ov kv) 40
 o1:Own X (w.heap.size + 1) (vA r c) 52
 o2:Own X (w.heap.size + 2) (vA r2 q2) 52
 t:Own X (w.heap.size + 3) stZ.toArray 40
 b:Below w.heap.size w X
 s:Sure (TB T0 w) X fun w=>StW w s fv sv ov kv
theorem RgX.later {T0:Nat→Prop} {w X X':World} {s:St} {r c r2 q2:Int} {fv sv ov kv:Value} (h:RgX T0 w s r c r2 q2 fv sv ov kv X) (hb:Below X.heap.size X X'):RgX T0 w s r c r2 q2 fv sv ov kv X':=⟨h.a.later hb,h.o1.later hb,h.o2.later hb,h.t.later hb,h.b.trans (hb.mono h.b.size),h.s.later hb⟩
theorem RgX.fin {T0:Nat→Prop} {w X:World} {s:St} {r c r2 q2:Int} {fv sv ov kv:Value} (h:RgX T0 w s r c r2 q2 fv sv ov kv X) :
   Own (X.setCells (w.heap.size + 3) 0 (stA s fv sv ov kv).toList) (w.heap.size + 3) (stA s fv sv ov kv).toList.toArray 40∧Sure T0 (X.setCells (w.heap.size + 3) 0 (stA s fv sv ov kv).toList) (fun w=>StW w s fv sv ov kv)∧Below w.heap.size w (X.setCells (w.heap.size + 3) 0 (stA s fv sv ov kv).toList):=by
 have hs:=StoreR.sets (w.heap.size + 3) (stA s fv sv ov kv).toList X 0
 exact ⟨(zcc _ 0 h.t).whole (by rfl),(h.s.stored hs (.inr (by omega))).mono (fun b hb=>.inl hb),hs.bel (by omega) h.b⟩
theorem StW.blocks {w w2:World} {s:St} {fv sv ov kv:Value} (h:StW w s fv sv ov kv) (hz:w.heap.size≤w2.heap.size) (hb:∀ k,k < w.heap.size→w2.heap[k]?=w.heap[k]?):StW w2 s fv sv ov kv:=by
 have hc:∀ b o,b < w.heap.size→w2.cell? ⟨b,o,none⟩=w.cell? ⟨b,o,none⟩:=fun b o h=>World.cell?_of_block (hb b h)
 refine ⟨h.lf.mono (fun b o hS=>hc b o hS) (fun b hS=>Nat.lt_of_lt_of_le hS hz),?_,?_,?_⟩
 · obtain ⟨oa,cap,b,o,e,h⟩:=h.ls
   exact ⟨oa,cap,b,o,e,⟨h.len,h.max,fun h0=>⟨(h.at0 h0).1,Nat.lt_of_lt_of_le (h.at0 h0).2 hz⟩,fun k i hk j u hu=>by
     rw [hc b _ (h.at0 (by have:=zbo hk;omega)).2];exact h.cell k i hk j u hu,h.ok⟩⟩
 · obtain ⟨oa,cap,b,o,e,h⟩:=h.lo
   exact ⟨oa,cap,b,o,e,⟨h.len,h.max,fun h0=>⟨(h.at0 h0).1,Nat.lt_of_lt_of_le (h.at0 h0).2 hz⟩,fun k i hk j u hu=>by
     rw [hc b _ (h.at0 (by have:=zbo hk;omega)).2];exact h.cell k i hk j u hu,h.ok⟩⟩
 · obtain ⟨U,oa,cap,b,o,e,h⟩:=h.lk
   refine ⟨U,oa,cap,b,o,e,⟨h.len,h.max,fun h0=>⟨(h.at0 h0).1,Nat.lt_of_lt_of_le (h.at0 h0).2 hz⟩,fun k i hk j u hu=>by
     rw [hc b _ (h.at0 (by have:=zbo hk;omega)).2];exact h.cell k i hk j u hu,fun k f hk=>?_⟩⟩
   obtain ⟨oa,cap,b,o,e,h⟩:=h.ids k f hk
   exact ⟨oa,cap,b,o,e,⟨h.len,h.max,fun h0=>⟨(h.at0 h0).1,Nat.lt_of_lt_of_le (h.at0 h0).2 hz⟩,fun k s hk=>by
     rw [hc b _ (h.at0 (by have:=zbo hk;omega)).2];exact h.cell k s hk,h.ok⟩⟩
theorem Sure.aboveT {w X:World} {P:World→Prop} {T0:Nat→Prop} (h:Sure T0 w P) (hb:Below w.heap.size w X):Sure (TB T0 w) X P:=fun w2 h2 =>
 h w2 ⟨Nat.le_trans hb.size h2.size,fun b hlt ht=>(h2.blk b (Nat.lt_of_lt_of_le hlt hb.size) (fun e=>by rcases e with e | e;exact ht e;omega)).trans (hb.block b hlt)⟩
theorem zl4 (T0:Nat→Prop) (s:St) (fv sv ov kv:Value) (id:ByteArray) (r c r2 q2:Int) (w:World) (hS0:Sure T0 w fun w=>StW w s fv sv ov kv) (hT0:∀ b,T0 b→b < w.heap.size) (hB:StB s) (hid:id.size≤maxLen) :
   Calls Tryz.prog 21 #[stV s fv sv ov kv,.string id,vV r c,vV r2 q2] w fun e w'=>∃ fv' sv' ov' kv',e=.returned (stV (zb0 s id r c r2 q2) fv' sv' ov' kv')∧Sure T0 w' (fun w=>StW w (zb0 s id r c r2 q2) fv' sv' ov' kv')∧Below w.heap.size w w':=by
 have hS:=hS0.now
 have HT0:=y48h hT0
 have hfl:=zbk s.k id r2 q2
 have CG:=fun a w' h=>y48h (zeh s.store id a w' h)
 have CD:=fun a w' h=>y48h (ze2 s.store id a w' h (Nat.le_trans hB.ls (by decide)))
 have CV:=fun w'=>y48h (zih r2 q2 w')
 have CW:=fun a w' h=>y48h (zdr s.k id r2 q2 a w' h hid (by rw [hfl];exact Nat.le_trans (Nat.succ_le_succ hB.ki) (by decide)) (Nat.le_trans hB.kl (by decide)))
 generalize hRS:zb0 s id r c r2 q2=RS
 have HRS:=y48h hRS
 obtain ⟨⟨o3,c3,rfl⟩,⟨o4,c4,rfl⟩,⟨o5,c5,rfl⟩,⟨o6,c6,rfl⟩⟩:=hS.shape
 have HS:=y48h hS0
 have HA:=y48h (@ztq s id r c r2 q2)
 have HBB:=y48h (@ztr s id r c r2 q2)
 have HCC:=y48h (@zts s id r c r2 q2)
 have OA:=y48h ((((Own.new w (stA s (.slice o3 s.f.kids.length c3) (.slice o4 s.store.length c4) (.slice o5 s.out.length c5) (.slice o6 s.k.l.length c6)) 40).alloc (.cells (vA r c) 52)).alloc (.cells (vA r2 q2) 52)).alloc (.cells stZ.toArray 40))
 have O1:=y48h (((Own.newAt (w.alloc (.cells (stA s (.slice o3 s.f.kids.length c3) (.slice o4 s.store.length c4) (.slice o5 s.out.length c5) (.slice o6 s.k.l.length c6)) 40)) (vA r c) 52 (b:=w.heap.size + 1) (by simp)).alloc (.cells (vA r2 q2) 52)).alloc (.cells stZ.toArray 40))
 have O2:=y48h ((Own.newAt ((w.alloc (.cells (stA s (.slice o3 s.f.kids.length c3) (.slice o4 s.store.length c4) (.slice o5 s.out.length c5) (.slice o6 s.k.l.length c6)) 40)).alloc (.cells (vA r c) 52)) (vA r2 q2) 52 (b:=w.heap.size + 2) (by simp)).alloc (.cells stZ.toArray 40))
 have OT:=y48h (Own.newAt (((w.alloc (.cells (stA s (.slice o3 s.f.kids.length c3) (.slice o4 s.store.length c4) (.slice o5 s.out.length c5) (.slice o6 s.k.l.length c6)) 40)).alloc (.cells (vA r c) 52)).alloc (.cells (vA r2 q2) 52)) stZ.toArray 40 (b:=w.heap.size + 3) (by simp))
 have BEL:=y48h (((((Below.refl w.heap.size w).alloc (Nat.le_refl _) (.cells (stA s (.slice o3 s.f.kids.length c3) (.slice o4 s.store.length c4) (.slice o5 s.out.length c5) (.slice o6 s.k.l.length c6)) 40)).alloc (by simp) (.cells (vA r c) 52)).alloc (by simp;omega) (.cells (vA r2 q2) 52)).alloc (by simp;omega) (.cells stZ.toArray 40))
 clear hS hS0 hT0 hB hfl hid hRS
 go_enter Tryz.func21,Tryz.ntmps21
 go_upto_region 1 with fail
 revert OA O1 O2 OT BEL
 generalize World.alloc (World.alloc (World.alloc (World.alloc _ _) _) _) _=W1
 intro OA O1 O2 OT BEL
 have CX:Hid (RgX T0 w s r c r2 q2 (.slice o3 s.f.kids.length c3) (.slice o4 s.store.length c4) (.slice o5 s.out.length c5) (.slice o6 s.k.l.length c6) W1):=y48h ⟨OA.out,O1.out,O2.out,OT.out,BEL.out,HS.out.aboveT BEL.out⟩
 clear OA O1 O2 OT BEL HS
 try simp only [Act.put]
 have lA:=CX.out.a.cell
 have zA:=CX.out.a.lt
 have fA:=CX.out.a.free
 have lO:=CX.out.o1.cell
 have zO:=CX.out.o1.lt
 have lN:=CX.out.o2.cell
 have zN:=CX.out.o2.lt
 generalize hgt:getI s.store id=gt at *
 obtain ⟨y,th⟩:=gt
 have HGT:=y48h hgt
 clear hgt
 go_upto_region 2 with (go_at_call 19;refine (CG _ _ CX.out.s.now.ls).out.mono ?_;rintro e wg ⟨rfl,hb⟩;clear lA zA fA lO zO lN zN;replace CX:=y48h (CX.out.later hb);clear hb;have lA:=CX.out.a.cell;have zA:=CX.out.a.lt;have fA:=CX.out.a.free;have lO:=CX.out.o1.cell;have zO:=CX.out.o1.lt;have lN:=CX.out.o2.cell;have zN:=CX.out.o2.lt;have OY:=y48h (Own.new wg (iA y) 58))
 clear lA zA fA lO zO lN zN
 have zby:=CX.out.t.lt
 have CX2:Hid (RgX T0 w s r c r2 q2 (.slice o3 s.f.kids.length c3) (.slice o4 s.store.length c4) (.slice o5 s.out.length c5) (.slice o6 s.k.l.length c6) (wg.alloc (.cells (iA y) 58))):=y48h (by
   have hb:Below wg.heap.size wg (wg.alloc (.cells (iA y) 58)):=(Below.refl _ _).alloc (Nat.le_refl _) _
   have h:=CX.out.later hb
   exact ⟨h.a,h.o1,h.o2,h.t,h.b,h.s⟩)
 clear CX
 have CX:=CX2
 clear CX2
 revert CX
 revert OY
 generalize World.alloc _ _=W4
 generalize wg.heap.size=by_ at *
 intro OY CX
 try simp only [Act.put]
 have lA:=CX.out.a.cell
 have zA:=CX.out.a.lt
 have fA:=CX.out.a.free
 have lO:=CX.out.o1.cell
 have zO:=CX.out.o1.lt
 have lN:=CX.out.o2.cell
 have zN:=CX.out.o2.lt
 have lY:=OY.out.cell
 have zY:=OY.out.lt
 have fY:=OY.out.free
 by_cases hw:th=true∧y.r=r∧y.c=c
 case neg =>
   have eS:=y48h (HRS.out.symm.trans (HA.out hw))
   have ways:th=false ∨ (th=true∧¬ y.r=r) ∨ (th=true∧y.r=r∧¬ y.c=c):=by
     cases th
     · exact .inl rfl
     · by_cases h1:y.r=r
       · exact .inr (.inr ⟨rfl,h1,fun h2=>hw ⟨rfl,h1,h2⟩⟩)
       · exact .inr (.inl ⟨rfl,h1⟩)
   clear hw
   rcases ways with rfl | ⟨rfl,hne⟩ | ⟨rfl,hr1,hne⟩
   · go_upto_region 3 with fail
     clear lY zY fY OY
     clear lA zA fA lO zO lN zN
     have lA:=CX.out.a.cell
     have zA:=CX.out.a.lt
     have fA:=CX.out.a.free
     have lO:=CX.out.o1.cell
     have zO:=CX.out.o1.lt
     have lN:=CX.out.o2.cell
     have zN:=CX.out.o2.lt
     go_wp2_with (first
       | (refine wpList_load_mid (by rfl) 40 _ (by rfl) w.heap.size 0 (by rfl) (stA s (.slice o3 s.f.kids.length c3) (.slice o4 s.store.length c4) (.slice o5 s.out.length c5) (.slice o6 s.k.l.length c6)).toList _ (by exact CX.out.a.part 0 _ (by rfl)) Tryz.underlying40 (by rfl) (by kernel_rfl) ?_)
       | (refine wpList_store_mid (by rfl) 40 _ _ (by rfl) (w.heap.size + 3) 0 (stA s (.slice o3 s.f.kids.length c3) (.slice o4 s.store.length c4) (.slice o5 s.out.length c5) (.slice o6 s.k.l.length c6)) (by rfl) (by rfl) (by exact za0 CX.out.t 0 (by simp)) (by kernel_rfl) (by simp [Value.oneCell']) ?_)
       | fail)
     have HK:=y48h CX.out.fin
     clear lA zA fA lO zO lN zN
     revert HK
     generalize World.setCells _ _ _ _=WW
     intro HK
     exact zbm (by rfl) (by rfl) (l:=(stA s (.slice o3 s.f.kids.length c3) (.slice o4 s.store.length c4) (.slice o5 s.out.length c5) (.slice o6 s.k.l.length c6)).toList) HK.out.1.range Tryz.underlying40 (by rfl) (by kernel_rfl) rfl ⟨(.slice o3 s.f.kids.length c3),(.slice o4 s.store.length c4),(.slice o5 s.out.length c5),(.slice o6 s.k.l.length c6),by rw [eS.out],by rw [eS.out];exact HK.out.2.1,HK.out.2.2⟩
   · go_upto_region 3 with fail
     clear lY zY fY OY hne
     clear lA zA fA lO zO lN zN
     have lA:=CX.out.a.cell
     have zA:=CX.out.a.lt
     have fA:=CX.out.a.free
     have lO:=CX.out.o1.cell
     have zO:=CX.out.o1.lt
     have lN:=CX.out.o2.cell
     have zN:=CX.out.o2.lt
     go_wp2_with (first
       | (refine wpList_load_mid (by rfl) 40 _ (by rfl) w.heap.size 0 (by rfl) (stA s (.slice o3 s.f.kids.length c3) (.slice o4 s.store.length c4) (.slice o5 s.out.length c5) (.slice o6 s.k.l.length c6)).toList _ (by exact CX.out.a.part 0 _ (by rfl)) Tryz.underlying40 (by rfl) (by kernel_rfl) ?_)
       | (refine wpList_store_mid (by rfl) 40 _ _ (by rfl) (w.heap.size + 3) 0 (stA s (.slice o3 s.f.kids.length c3) (.slice o4 s.store.length c4) (.slice o5 s.out.length c5) (.slice o6 s.k.l.length c6)) (by rfl) (by rfl) (by exact za0 CX.out.t 0 (by simp)) (by kernel_rfl) (by simp [Value.oneCell']) ?_)
       | fail)
     have HK:=y48h CX.out.fin
     clear lA zA fA lO zO lN zN
     revert HK
     generalize World.setCells _ _ _ _=WW
     intro HK
     exact zbm (by rfl) (by rfl) (l:=(stA s (.slice o3 s.f.kids.length c3) (.slice o4 s.store.length c4) (.slice o5 s.out.length c5) (.slice o6 s.k.l.length c6)).toList) HK.out.1.range Tryz.underlying40 (by rfl) (by kernel_rfl) rfl ⟨(.slice o3 s.f.kids.length c3),(.slice o4 s.store.length c4),(.slice o5 s.out.length c5),(.slice o6 s.k.l.length c6),by rw [eS.out],by rw [eS.out];exact HK.out.2.1,HK.out.2.2⟩
   · subst hr1
     go_upto_region 3 with fail
     clear lY zY fY OY hne
     clear lA zA fA lO zO lN zN
     have lA:=CX.out.a.cell
     have zA:=CX.out.a.lt
     have fA:=CX.out.a.free
     have lO:=CX.out.o1.cell
     have zO:=CX.out.o1.lt
     have lN:=CX.out.o2.cell
     have zN:=CX.out.o2.lt
     go_wp2_with (first
       | (refine wpList_load_mid (by rfl) 40 _ (by rfl) w.heap.size 0 (by rfl) (stA s (.slice o3 s.f.kids.length c3) (.slice o4 s.store.length c4) (.slice o5 s.out.length c5) (.slice o6 s.k.l.length c6)).toList _ (by exact CX.out.a.part 0 _ (by rfl)) Tryz.underlying40 (by rfl) (by kernel_rfl) ?_)
       | (refine wpList_store_mid (by rfl) 40 _ _ (by rfl) (w.heap.size + 3) 0 (stA s (.slice o3 s.f.kids.length c3) (.slice o4 s.store.length c4) (.slice o5 s.out.length c5) (.slice o6 s.k.l.length c6)) (by rfl) (by rfl) (by exact za0 CX.out.t 0 (by simp)) (by kernel_rfl) (by simp [Value.oneCell']) ?_)
       | fail)
     have HK:=y48h CX.out.fin
     clear lA zA fA lO zO lN zN
     revert HK
     generalize World.setCells _ _ _ _=WW
     intro HK
     exact zbm (by rfl) (by rfl) (l:=(stA s (.slice o3 s.f.kids.length c3) (.slice o4 s.store.length c4) (.slice o5 s.out.length c5) (.slice o6 s.k.l.length c6)).toList) HK.out.1.range Tryz.underlying40 (by rfl) (by kernel_rfl) rfl ⟨(.slice o3 s.f.kids.length c3),(.slice o4 s.store.length c4),(.slice o5 s.out.length c5),(.slice o6 s.k.l.length c6),by rw [eS.out],by rw [eS.out];exact HK.out.2.1,HK.out.2.2⟩
 obtain ⟨rfl,hr,hc⟩:=hw
 subst hr hc
 go_upto_region 5 with (go_at_call 72;refine (CD _ _ CX.out.s.now.ls).out.mono ?_;rintro e w8 ⟨v8,rfl,hr8,hb⟩;obtain ⟨o8,c8,ev8⟩:=hr8.len;generalize (s.store.filter (neB id)).length=n8 at ev8;subst ev8;have zt:=CX.out.t.lt;have HOK:=y48h CX.out.s.now.ls.oks;have SS:=y48h ((OwnI.sure hr8 (fun i hi=>HOK.out i (List.mem_filter.1 hi).1)).mono (T':=TB T0 w) (fun b hb=>by rcases hb with hb | hb;(have:=HT0.out b hb;show b < _;omega);(show b < _;omega)));clear lY zY fY hr8 zt;clear lA zA fA lO zO lN zN;replace OY:=y48h (OY.out.later hb);have zb8:=hb.size;replace CX:=y48h (CX.out.later hb);clear hb;have lA:=CX.out.a.cell;have zA:=CX.out.a.lt;have fA:=CX.out.a.free;have lO:=CX.out.o1.cell;have zO:=CX.out.o1.lt;have lN:=CX.out.o2.cell;have zN:=CX.out.o2.lt)
 have HSR:=y48h (StoreR.sets w.heap.size [.slice o8 n8 c8] w8 6)
 have KEY:Hid (RgX T0 w (zbz s id) y.r y.c r2 q2 (.slice o3 s.f.kids.length c3) (.slice o8 n8 c8) (.slice o5 s.out.length c5) (.slice o6 s.k.l.length c6) (w8.setCell ⟨w.heap.size,6,none⟩ (.slice o8 n8 c8))):=y48h ⟨(by have h:=CX.out.a.set 6 (.slice o8 n8 c8);rw [zet] at h;exact h),CX.out.o1.stored HSR.out (by omega),CX.out.o2.stored HSR.out (by omega),CX.out.t.stored HSR.out (by omega),HSR.out.bel (Nat.le_refl _) CX.out.b,fun w2 h2=>⟨(CX.out.s.stored HSR.out (.inr (by omega)) w2 h2).lf,SS.out.stored HSR.out (.inr (by omega)) w2 h2,(CX.out.s.stored HSR.out (.inr (by omega)) w2 h2).lo,(CX.out.s.stored HSR.out (.inr (by omega)) w2 h2).lk⟩⟩
 clear CX HSR SS OY CD CG HOK
 clear lA zA fA lO zO lN zN
 revert KEY
 generalize World.setCell _ _ _=W9
 intro CX
 try simp only [Act.put]
 have lA:=CX.out.a.cell
 have zA:=CX.out.a.lt
 have fA:=CX.out.a.free
 have lO:=CX.out.o1.cell
 have zO:=CX.out.o1.lt
 have lN:=CX.out.o2.cell
 have zN:=CX.out.o2.lt
 go_upto_region 6 with (go_at_call 73;refine (CV _).out.mono ?_;rintro e wv ⟨rfl,hb⟩;clear lA zA fA lO zO lN zN;replace CX:=y48h (CX.out.later hb);clear hb;have lA:=CX.out.a.cell;have zA:=CX.out.a.lt;have fA:=CX.out.a.free;have lO:=CX.out.o1.cell;have zO:=CX.out.o1.lt;have lN:=CX.out.o2.cell;have zN:=CX.out.o2.lt)
 clear CV
 have ways:(verB r2 q2=true∧(r2 ≠ s.r ∨ q2≤s.count)) ∨ ¬ (verB r2 q2=true∧(r2 ≠ s.r ∨ q2≤s.count)):=Decidable.em _
 generalize hvb:verB r2 q2=vb at *
 rcases ways with hv | hv
 · have eS:=y48h (HRS.out.symm.trans (HCC.out ⟨(by first | trivial | rfl),(by first | trivial | rfl),(by first | trivial | rfl)⟩ (by simpa [hvb] using hv)))
   obtain ⟨rfl,hv⟩:=hv
   have hv2:r2 ≠ s.r ∨ (r2=s.r∧q2≤s.count):=by
     by_cases h1:r2=s.r
     · rcases hv with h | h
       · exact absurd h1 h
       · exact .inr ⟨h1,h⟩
     · exact .inl h1
   clear hv hvb
   rcases hv2 with h1 | ⟨h1,h2⟩
   · go_upto_region 7 with fail
     go_upto_region 8 with (first
       | (refine wpList_load_mid (by rfl) 38 _ (by rfl) w.heap.size 8 (by rfl) (knA s.k.star (.slice o6 s.k.l.length c6)).toList _ (by exact CX.out.a.part 8 _ (by rfl)) Tryz.underlying38 (by rfl) (by kernel_rfl) ?_)
       | (go_at_call 70;refine (CW _ _ CX.out.s.now.lk).out.mono ?_;rintro e e7w ⟨v7,rfl,hf7,hb⟩;obtain ⟨o7,c7,ev7⟩:=hf7.fr.val;generalize (zah (zal s.k id r2 q2)).l.length=n7 at ev7;subst ev7;have zt:=CX.out.t.lt;have SK:=y48h (hf7.sure.mono (T':=TB T0 w) (fun b hb=>by rcases hb with hb | hb;(have:=HT0.out b hb;show b < _;omega);(show b < _;omega)));clear lA zA fA lO zO lN zN;clear hf7 zt;replace CX:=y48h (CX.out.later hb);clear hb;have lA:=CX.out.a.cell;have zA:=CX.out.a.lt;have fA:=CX.out.a.free;have lO:=CX.out.o1.cell;have zO:=CX.out.o1.lt;have lN:=CX.out.o2.cell;have zN:=CX.out.o2.lt)
       | (refine wpList_store_mid (by rfl) 38 _ _ (by rfl) w.heap.size 8 (knA s.k.star (.slice o7 n7 c7)) (by rfl) (by rfl) (by exact za0 CX.out.a 8 (by simp)) (by kernel_rfl) (by simp [Value.oneCell']) ?_)
       | fail)
     have HSR:=y48h (StoreR.sets w.heap.size (knA s.k.star (.slice o7 n7 c7)).toList e7w 8)
     have KEY:Hid (RgX T0 w ⟨s.r,s.f,s.store.filter (neB id),s.out,zcs s id r2 q2,s.count,s.clock,s.epoch⟩ y.r y.c r2 q2 (.slice o3 s.f.kids.length c3) (.slice o8 n8 c8) (.slice o5 s.out.length c5) (.slice o7 n7 c7) (e7w.setCells w.heap.size 8 (knA s.k.star (.slice o7 n7 c7)).toList)):=y48h ⟨(by have h:=zcc (knA s.k.star (.slice o7 n7 c7)).toList 8 CX.out.a;rw [zfq (zbz s id) s.k.star (zah (zal s.k id r2 q2)).l] at h;exact h),CX.out.o1.stored HSR.out (by omega),CX.out.o2.stored HSR.out (by omega),CX.out.t.stored HSR.out (by omega),HSR.out.bel (Nat.le_refl _) CX.out.b,fun w2 h2=>⟨(CX.out.s.stored HSR.out (.inr (by omega)) w2 h2).lf,(CX.out.s.stored HSR.out (.inr (by omega)) w2 h2).ls,(CX.out.s.stored HSR.out (.inr (by omega)) w2 h2).lo,SK.out.stored HSR.out (.inr (by omega)) w2 h2⟩⟩
     clear CX HSR SK
     clear lA zA fA lO zO lN zN
     revert KEY
     generalize World.setCells _ _ _ _=W11
     intro CX
     try simp only [Act.put]
     have lA:=CX.out.a.cell
     have zA:=CX.out.a.lt
     have fA:=CX.out.a.free
     have lO:=CX.out.o1.cell
     have zO:=CX.out.o1.lt
     have lN:=CX.out.o2.cell
     have zN:=CX.out.o2.lt
     go_wp2_with (first
       | (refine wpList_load_mid (by rfl) 40 _ (by rfl) w.heap.size 0 (by rfl) (stA ⟨s.r,s.f,s.store.filter (neB id),s.out,zcs s id r2 q2,s.count,s.clock,s.epoch⟩ (.slice o3 s.f.kids.length c3) (.slice o8 n8 c8) (.slice o5 s.out.length c5) (.slice o7 n7 c7)).toList _ (by exact CX.out.a.part 0 _ (by rfl)) Tryz.underlying40 (by rfl) (by kernel_rfl) ?_)
       | (refine wpList_store_mid (by rfl) 40 _ _ (by rfl) (w.heap.size + 3) 0 (stA ⟨s.r,s.f,s.store.filter (neB id),s.out,zcs s id r2 q2,s.count,s.clock,s.epoch⟩ (.slice o3 s.f.kids.length c3) (.slice o8 n8 c8) (.slice o5 s.out.length c5) (.slice o7 n7 c7)) (by rfl) (by rfl) (by exact za0 CX.out.t 0 (by simp)) (by kernel_rfl) (by simp [Value.oneCell']) ?_)
       | fail)
     have HK:=y48h CX.out.fin
     clear lA zA fA lO zO lN zN
     revert HK
     generalize World.setCells _ _ _ _=WW
     intro HK
     exact zbm (by rfl) (by rfl) (l:=(stA ⟨s.r,s.f,s.store.filter (neB id),s.out,zcs s id r2 q2,s.count,s.clock,s.epoch⟩ (.slice o3 s.f.kids.length c3) (.slice o8 n8 c8) (.slice o5 s.out.length c5) (.slice o7 n7 c7)).toList) HK.out.1.range Tryz.underlying40 (by rfl) (by kernel_rfl) rfl ⟨(.slice o3 s.f.kids.length c3),(.slice o8 n8 c8),(.slice o5 s.out.length c5),(.slice o7 n7 c7),by rw [eS.out],by rw [eS.out];exact HK.out.2.1,HK.out.2.2⟩
   · clear lA zA fA lO zO lN zN
     have zA:=CX.out.a.lt
     have zN:=CX.out.o2.lt
     have l00:wv.cell? ⟨w.heap.size,0,none⟩=some (.int .i64 s.r):=CX.out.a.cell 0
     have l17:wv.cell? ⟨w.heap.size,17,none⟩=some (.int .i64 s.count):=CX.out.a.cell 17
     have n00:wv.cell? ⟨w.heap.size + 2,0,none⟩=some (.int .i64 s.r):=h1 ▸ CX.out.o2.cell 0
     clear h1
     have n01:wv.cell? ⟨w.heap.size + 2,1,none⟩=some (.int .i64 q2):=CX.out.o2.cell 1
     go_upto_region 7 with fail
     clear l00 l17 n00 n01 zA zN
     have lA:=CX.out.a.cell
     have zA:=CX.out.a.lt
     have fA:=CX.out.a.free
     have lO:=CX.out.o1.cell
     have zO:=CX.out.o1.lt
     have lN:=CX.out.o2.cell
     have zN:=CX.out.o2.lt
     go_upto_region 8 with (first
       | (refine wpList_load_mid (by rfl) 38 _ (by rfl) w.heap.size 8 (by rfl) (knA s.k.star (.slice o6 s.k.l.length c6)).toList _ (by exact CX.out.a.part 8 _ (by rfl)) Tryz.underlying38 (by rfl) (by kernel_rfl) ?_)
       | (go_at_call 70;refine (CW _ _ CX.out.s.now.lk).out.mono ?_;rintro e e7w ⟨v7,rfl,hf7,hb⟩;obtain ⟨o7,c7,ev7⟩:=hf7.fr.val;generalize (zah (zal s.k id r2 q2)).l.length=n7 at ev7;subst ev7;have zt:=CX.out.t.lt;have SK:=y48h (hf7.sure.mono (T':=TB T0 w) (fun b hb=>by rcases hb with hb | hb;(have:=HT0.out b hb;show b < _;omega);(show b < _;omega)));clear lA zA fA lO zO lN zN;clear hf7 zt;replace CX:=y48h (CX.out.later hb);clear hb;have lA:=CX.out.a.cell;have zA:=CX.out.a.lt;have fA:=CX.out.a.free;have lO:=CX.out.o1.cell;have zO:=CX.out.o1.lt;have lN:=CX.out.o2.cell;have zN:=CX.out.o2.lt)
       | (refine wpList_store_mid (by rfl) 38 _ _ (by rfl) w.heap.size 8 (knA s.k.star (.slice o7 n7 c7)) (by rfl) (by rfl) (by exact za0 CX.out.a 8 (by simp)) (by kernel_rfl) (by simp [Value.oneCell']) ?_)
       | fail)
     have HSR:=y48h (StoreR.sets w.heap.size (knA s.k.star (.slice o7 n7 c7)).toList e7w 8)
     have KEY:Hid (RgX T0 w ⟨s.r,s.f,s.store.filter (neB id),s.out,zcs s id r2 q2,s.count,s.clock,s.epoch⟩ y.r y.c r2 q2 (.slice o3 s.f.kids.length c3) (.slice o8 n8 c8) (.slice o5 s.out.length c5) (.slice o7 n7 c7) (e7w.setCells w.heap.size 8 (knA s.k.star (.slice o7 n7 c7)).toList)):=y48h ⟨(by have h:=zcc (knA s.k.star (.slice o7 n7 c7)).toList 8 CX.out.a;rw [zfq (zbz s id) s.k.star (zah (zal s.k id r2 q2)).l] at h;exact h),CX.out.o1.stored HSR.out (by omega),CX.out.o2.stored HSR.out (by omega),CX.out.t.stored HSR.out (by omega),HSR.out.bel (Nat.le_refl _) CX.out.b,fun w2 h2=>⟨(CX.out.s.stored HSR.out (.inr (by omega)) w2 h2).lf,(CX.out.s.stored HSR.out (.inr (by omega)) w2 h2).ls,(CX.out.s.stored HSR.out (.inr (by omega)) w2 h2).lo,SK.out.stored HSR.out (.inr (by omega)) w2 h2⟩⟩
     clear CX HSR SK
     clear lA zA fA lO zO lN zN
     revert KEY
     generalize World.setCells _ _ _ _=W11
     intro CX
     try simp only [Act.put]
     have lA:=CX.out.a.cell
     have zA:=CX.out.a.lt
     have fA:=CX.out.a.free
     have lO:=CX.out.o1.cell
     have zO:=CX.out.o1.lt
     have lN:=CX.out.o2.cell
     have zN:=CX.out.o2.lt
     go_wp2_with (first
       | (refine wpList_load_mid (by rfl) 40 _ (by rfl) w.heap.size 0 (by rfl) (stA ⟨s.r,s.f,s.store.filter (neB id),s.out,zcs s id r2 q2,s.count,s.clock,s.epoch⟩ (.slice o3 s.f.kids.length c3) (.slice o8 n8 c8) (.slice o5 s.out.length c5) (.slice o7 n7 c7)).toList _ (by exact CX.out.a.part 0 _ (by rfl)) Tryz.underlying40 (by rfl) (by kernel_rfl) ?_)
       | (refine wpList_store_mid (by rfl) 40 _ _ (by rfl) (w.heap.size + 3) 0 (stA ⟨s.r,s.f,s.store.filter (neB id),s.out,zcs s id r2 q2,s.count,s.clock,s.epoch⟩ (.slice o3 s.f.kids.length c3) (.slice o8 n8 c8) (.slice o5 s.out.length c5) (.slice o7 n7 c7)) (by rfl) (by rfl) (by exact za0 CX.out.t 0 (by simp)) (by kernel_rfl) (by simp [Value.oneCell']) ?_)
       | fail)
     have HK:=y48h CX.out.fin
     clear lA zA fA lO zO lN zN
     revert HK
     generalize World.setCells _ _ _ _=WW
     intro HK
     exact zbm (by rfl) (by rfl) (l:=(stA ⟨s.r,s.f,s.store.filter (neB id),s.out,zcs s id r2 q2,s.count,s.clock,s.epoch⟩ (.slice o3 s.f.kids.length c3) (.slice o8 n8 c8) (.slice o5 s.out.length c5) (.slice o7 n7 c7)).toList) HK.out.1.range Tryz.underlying40 (by rfl) (by kernel_rfl) rfl ⟨(.slice o3 s.f.kids.length c3),(.slice o8 n8 c8),(.slice o5 s.out.length c5),(.slice o7 n7 c7),by rw [eS.out],by rw [eS.out];exact HK.out.2.1,HK.out.2.2⟩
 · have eS:=y48h (HRS.out.symm.trans (HBB.out ⟨(by first | trivial | rfl),(by first | trivial | rfl),(by first | trivial | rfl)⟩ (by simpa [hvb] using hv)))
   have hv2:vb=false ∨ (vb=true∧r2=s.r∧¬ q2≤s.count):=by
     cases vb
     · exact .inl rfl
     · refine .inr ⟨rfl,?_⟩
       by_cases h1:r2=s.r
       · exact ⟨h1,fun h2=>hv ⟨rfl,.inr h2⟩⟩
       · exact absurd ⟨rfl,.inl h1⟩ hv
   clear hv hvb
   rcases hv2 with rfl | ⟨rfl,h1,h2⟩
   · go_upto_region 8 with fail
     clear lA zA fA lO zO lN zN
     have lA:=CX.out.a.cell
     have zA:=CX.out.a.lt
     have fA:=CX.out.a.free
     have lO:=CX.out.o1.cell
     have zO:=CX.out.o1.lt
     have lN:=CX.out.o2.cell
     have zN:=CX.out.o2.lt
     go_wp2_with (first
       | (refine wpList_load_mid (by rfl) 40 _ (by rfl) w.heap.size 0 (by rfl) (stA (zbz s id) (.slice o3 s.f.kids.length c3) (.slice o8 n8 c8) (.slice o5 s.out.length c5) (.slice o6 s.k.l.length c6)).toList _ (by exact CX.out.a.part 0 _ (by rfl)) Tryz.underlying40 (by rfl) (by kernel_rfl) ?_)
       | (refine wpList_store_mid (by rfl) 40 _ _ (by rfl) (w.heap.size + 3) 0 (stA (zbz s id) (.slice o3 s.f.kids.length c3) (.slice o8 n8 c8) (.slice o5 s.out.length c5) (.slice o6 s.k.l.length c6)) (by rfl) (by rfl) (by exact za0 CX.out.t 0 (by simp)) (by kernel_rfl) (by simp [Value.oneCell']) ?_)
       | fail)
     have HK:=y48h CX.out.fin
     clear lA zA fA lO zO lN zN
     revert HK
     generalize World.setCells _ _ _ _=WW
     intro HK
     exact zbm (by rfl) (by rfl) (l:=(stA (zbz s id) (.slice o3 s.f.kids.length c3) (.slice o8 n8 c8) (.slice o5 s.out.length c5) (.slice o6 s.k.l.length c6)).toList) HK.out.1.range Tryz.underlying40 (by rfl) (by kernel_rfl) rfl ⟨(.slice o3 s.f.kids.length c3),(.slice o8 n8 c8),(.slice o5 s.out.length c5),(.slice o6 s.k.l.length c6),by rw [eS.out],by rw [eS.out];exact HK.out.2.1,HK.out.2.2⟩
   · clear lA zA fA lO zO lN zN
     have zA:=CX.out.a.lt
     have zN:=CX.out.o2.lt
     have l00:wv.cell? ⟨w.heap.size,0,none⟩=some (.int .i64 s.r):=CX.out.a.cell 0
     have l17:wv.cell? ⟨w.heap.size,17,none⟩=some (.int .i64 s.count):=CX.out.a.cell 17
     have n00:wv.cell? ⟨w.heap.size + 2,0,none⟩=some (.int .i64 s.r):=h1 ▸ CX.out.o2.cell 0
     clear h1
     have n01:wv.cell? ⟨w.heap.size + 2,1,none⟩=some (.int .i64 q2):=CX.out.o2.cell 1
     go_upto_region 8 with fail
     clear l00 l17 n00 n01 zA zN
     have lA:=CX.out.a.cell
     have zA:=CX.out.a.lt
     have fA:=CX.out.a.free
     have lO:=CX.out.o1.cell
     have zO:=CX.out.o1.lt
     have lN:=CX.out.o2.cell
     have zN:=CX.out.o2.lt
     go_wp2_with (first
       | (refine wpList_load_mid (by rfl) 40 _ (by rfl) w.heap.size 0 (by rfl) (stA (zbz s id) (.slice o3 s.f.kids.length c3) (.slice o8 n8 c8) (.slice o5 s.out.length c5) (.slice o6 s.k.l.length c6)).toList _ (by exact CX.out.a.part 0 _ (by rfl)) Tryz.underlying40 (by rfl) (by kernel_rfl) ?_)
       | (refine wpList_store_mid (by rfl) 40 _ _ (by rfl) (w.heap.size + 3) 0 (stA (zbz s id) (.slice o3 s.f.kids.length c3) (.slice o8 n8 c8) (.slice o5 s.out.length c5) (.slice o6 s.k.l.length c6)) (by rfl) (by rfl) (by exact za0 CX.out.t 0 (by simp)) (by kernel_rfl) (by simp [Value.oneCell']) ?_)
       | fail)
     have HK:=y48h CX.out.fin
     clear lA zA fA lO zO lN zN
     revert HK
     generalize World.setCells _ _ _ _=WW
     intro HK
     exact zbm (by rfl) (by rfl) (l:=(stA (zbz s id) (.slice o3 s.f.kids.length c3) (.slice o8 n8 c8) (.slice o5 s.out.length c5) (.slice o6 s.k.l.length c6)).toList) HK.out.1.range Tryz.underlying40 (by rfl) (by kernel_rfl) rfl ⟨(.slice o3 s.f.kids.length c3),(.slice o8 n8 c8),(.slice o5 s.out.length c5),(.slice o6 s.k.l.length c6),by rw [eS.out],by rw [eS.out];exact HK.out.2.1,HK.out.2.2⟩
end Go.Proofs.YtodfhabkdaiopaaGreat
