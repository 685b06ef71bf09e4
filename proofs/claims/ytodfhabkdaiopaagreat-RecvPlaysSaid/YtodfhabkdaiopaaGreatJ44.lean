/- Joined: RcvG. -/
import Derived.Test.YtodfhabkdaiopaaGreatJ43
namespace Go.Proofs.YtodfhabkdaiopaaGreat
set_option linter.unusedVariables false
set_option linter.unusedSimpArgs false
set_option maxRecDepth 100000
set_option maxHeartbeats 8000000
open Go Go.RowKit
theorem y44h {p:Prop} (h:p):Go.RowKit.Hid p:=Lib.hid h
abbrev vA (r c:Int):Array Value:=#[.int .i64 r,.int .i64 c]
abbrev vV (r c:Int):Value:=.agg #[.int .i64 r,.int .i64 c]
structure GoX (w:World) (s:St) (r c r2 q2:Int) (by_:Nat) (fv sv ov kv:Value) (X:World):Prop where
 a:Own X w.heap.size (stA s fv sv ov kv) 40
 o1:Own X (w.heap.size + 1) (vA r c) 52
 o2:Own X (w.heap.size + 2) (vA r2 q2) 52
 t:Own X (w.heap.size + 3) stZ.toArray 40
 b:Below w.heap.size w X
 s:Sure (fun b=>b < w.heap.size + 4 ∨ b=by_) X fun w=>StW w s fv sv ov kv
theorem GoX.later {w X X':World} {s:St} {r c r2 q2:Int} {by_:Nat} {fv sv ov kv:Value} (h:GoX w s r c r2 q2 by_ fv sv ov kv X) (hb:Below X.heap.size X X'):GoX w s r c r2 q2 by_ fv sv ov kv X':=⟨h.a.later hb,h.o1.later hb,h.o2.later hb,h.t.later hb,h.b.trans (hb.mono h.b.size),h.s.later hb⟩
theorem GoX.fin {w X:World} {s:St} {r c r2 q2:Int} {by_:Nat} {fv sv ov kv:Value} (h:GoX w s r c r2 q2 by_ fv sv ov kv X) :
   Own (X.setCells (w.heap.size + 3) 0 (stA s fv sv ov kv).toList) (w.heap.size + 3) (stA s fv sv ov kv).toList.toArray 40∧Sure (fun b=>b < w.heap.size) (X.setCells (w.heap.size + 3) 0 (stA s fv sv ov kv).toList) (fun w=>StW w s fv sv ov kv)∧Below w.heap.size w (X.setCells (w.heap.size + 3) 0 (stA s fv sv ov kv).toList):=by
 have hs:=StoreR.sets (w.heap.size + 3) (stA s fv sv ov kv).toList X 0
 exact ⟨(zcc _ 0 h.t).whole (by rfl),(h.s.stored hs (by show _ < _ ∨ _;omega)).mono (fun b hb=>by have hb':b < w.heap.size:=hb;show b < _ ∨ _;omega),hs.bel (by omega) h.b⟩
theorem ztq {s:St} {id:ByteArray} {r c r2 q2:Int} (h:¬ ((getI s.store id).2=true∧(getI s.store id).1.r=r∧(getI s.store id).1.c=c)):zb0 s id r c r2 q2=s:=by unfold zb0;rw [if_neg h]
theorem ztr {s:St} {id:ByteArray} {r c r2 q2:Int} (h:(getI s.store id).2=true∧(getI s.store id).1.r=r∧(getI s.store id).1.c=c) (h2:¬ (verB r2 q2=true∧(r2 ≠ s.r ∨ q2≤s.count))):zb0 s id r c r2 q2=zbz s id:=by unfold zb0;rw [if_pos h,if_neg h2]
theorem zts {s:St} {id:ByteArray} {r c r2 q2:Int} (h:(getI s.store id).2=true∧(getI s.store id).1.r=r∧(getI s.store id).1.c=c) (h2:verB r2 q2=true∧(r2 ≠ s.r ∨ q2≤s.count)):zb0 s id r c r2 q2=⟨s.r,s.f,s.store.filter (neB id),s.out,zcs s id r2 q2,s.count,s.clock,s.epoch⟩:=by unfold zb0;rw [if_pos h,if_pos h2]
theorem zrk {s:St} {id:ByteArray} {y:Itm} {r2 q2:Int} (hy:mayT y=true):zbc (zbz s id) (zhg y r2 q2)=decide (verB r2 q2=true∧(r2 ≠ s.r ∨ q2≤s.count)):=by
 have h:=hy
 unfold mayT mayI at h
 simp only [Bool.and_eq_true] at h
 have e:mayT (zhg y r2 q2)=verB r2 q2:=by
   unfold mayT mayI zhg
   simp only [h.1,h.2.1,h.2.2.2.1,h.2.2.2.2.1,h.2.2.2.2.2,Bool.true_and,Bool.and_true]
 show (mayT (zhg y r2 q2) && (!(decide (r2=s.r)) || decide (q2≤s.count)))=_
 rw [e]
 cases verB r2 q2
 · simp
 · by_cases h1:r2=s.r <;> by_cases h2:q2≤s.count <;> simp [h1,h2]
theorem zl2 (s:St) (fv sv ov kv:Value) (id:ByteArray) (r c r2 q2:Int) (w:World) (hS:StW w s fv sv ov kv) (hG:Good s) (hB:StB s) (hid:id.size≤maxLen) :
   Calls Tryz.prog 20 #[stV s fv sv ov kv,.string id,vV r c,vV r2 q2] w fun e w'=>∃ fv' sv' ov' kv',e=.returned (stV (zb0 s id r c r2 q2) fv' sv' ov' kv')∧Sure (fun b=>b < w.heap.size) w' (fun w=>StW w (zb0 s id r c r2 q2) fv' sv' ov' kv')∧Below w.heap.size w w':=by
 have hfl:=zbk s.k id r2 q2
 have CS:=fun w' h=>y44h (zel s fv sv ov kv w' h (Nat.le_trans hB.f (by decide)) (Nat.le_trans hB.ls (by decide)) (Nat.le_trans hB.lo (by decide)) (Nat.le_trans hB.kl (by decide)) (Nat.le_trans hB.ki (by decide)))
 have CG:=fun a w' h=>y44h (zd0 s.store id a w' h hG.rs (Nat.le_trans hB.ls (by decide)) hid)
 have CD:=fun a w' h=>y44h (zcu s.store id a w' h hG.rs (Nat.le_trans hB.ls (by decide)) hid)
 have CC:=fun a b c d y w'=>y44h (zjf (zbz s id) a b c d y w')
 have CW:=fun a w' h=>y44h (zcp s.k id r2 q2 a w' h hid (by rw [hfl];exact Nat.le_trans (Nat.succ_le_succ hB.ki) (by decide)) (Nat.le_trans hB.kl (by decide)))
 have HMAY:=y44h (fun (h:(getI s.store id).2=true)=>show mayT (getI s.store id).1=true from by
   obtain ⟨i,hi,hii⟩:=get_is.1 h
   have e:=(zfh hG.rs).1 hi
   rw [hii] at e
   rw [e]
   exact (mayLB_iff.1 hG.st).1 i hi)
 generalize hRS:zb0 s id r c r2 q2=RS
 have HRS:=y44h hRS
 have HG:=y44h hG
 have HS:=y44h hS
 have HA:=y44h (@ztq s id r c r2 q2)
 have HBB:=y44h (@ztr s id r c r2 q2)
 have HCC:=y44h (@zts s id r c r2 q2)
 have OA:=y44h ((((Own.new w (stA s fv sv ov kv) 40).alloc (.cells (vA r c) 52)).alloc (.cells (vA r2 q2) 52)).alloc (.cells stZ.toArray 40))
 have O1:=y44h (((Own.newAt (w.alloc (.cells (stA s fv sv ov kv) 40)) (vA r c) 52 (b:=w.heap.size + 1) (by simp)).alloc (.cells (vA r2 q2) 52)).alloc (.cells stZ.toArray 40))
 have O2:=y44h ((Own.newAt ((w.alloc (.cells (stA s fv sv ov kv) 40)).alloc (.cells (vA r c) 52)) (vA r2 q2) 52 (b:=w.heap.size + 2) (by simp)).alloc (.cells stZ.toArray 40))
 have OT:=y44h (Own.newAt (((w.alloc (.cells (stA s fv sv ov kv) 40)).alloc (.cells (vA r c) 52)).alloc (.cells (vA r2 q2) 52)) stZ.toArray 40 (b:=w.heap.size + 3) (by simp))
 have BEL:=y44h (((((Below.refl w.heap.size w).alloc (Nat.le_refl _) (.cells (stA s fv sv ov kv) 40)).alloc (by simp) (.cells (vA r c) 52)).alloc (by simp;omega) (.cells (vA r2 q2) 52)).alloc (by simp;omega) (.cells stZ.toArray 40))
 clear hS hG hB hfl hid hRS
 go_enter Tryz.func20,Tryz.ntmps20
 go_upto_region 1 with fail
 revert OA O1 O2 OT BEL
 generalize World.alloc (World.alloc (World.alloc (World.alloc _ _) _) _) _=W1
 intro OA O1 O2 OT BEL
 go_upto_region 2 with (first
   | (refine wpList_load_mid (by rfl) 40 _ (by rfl) w.heap.size 0 (by rfl) (stA s fv sv ov kv).toList _ (by exact OA.out.part 0 _ (by rfl)) Tryz.underlying40 (by rfl) (by kernel_rfl) ?_)
   | (go_at_call 58;refine (CS _ (HS.out.later BEL.out)).out.mono ?_;rintro e w2 ⟨fv1,sv1,ov1,kv1,rfl,hs,hb⟩;obtain ⟨⟨o3,c3,rfl⟩,⟨o4,c4,rfl⟩,⟨o5,c5,rfl⟩,⟨o6,c6,rfl⟩⟩:=hs.now.shape;have zt:=OT.out.lt;have SX:=y44h (hs.mono (T':=fun b=>b < w.heap.size + 4 ∨ b=0) (fun b hb=>by have hb':b < w.heap.size + 4 ∨ b=0:=hb;show b < _;omega));replace OA:=y44h (OA.out.later hb);replace O1:=y44h (O1.out.later hb);replace O2:=y44h (O2.out.later hb);replace OT:=y44h (OT.out.later hb);replace BEL:=y44h (BEL.out.trans (hb.mono BEL.out.size));clear hs hb zt)
   | (refine wpList_store_mid (by rfl) 40 _ _ (by rfl) w.heap.size 0 (stA s (.slice o3 s.f.kids.length c3) (.slice o4 s.store.length c4) (.slice o5 s.out.length c5) (.slice o6 s.k.l.length c6)) (by rfl) (by rfl) (by exact za0 OA.out 0 (by simp)) (by kernel_rfl) (by simp [Value.oneCell']) ?_)
   | fail)
 have HSR:=y44h (StoreR.sets w.heap.size (stA s (.slice o3 s.f.kids.length c3) (.slice o4 s.store.length c4) (.slice o5 s.out.length c5) (.slice o6 s.k.l.length c6)).toList w2 0)
 have CX:Hid (GoX w s r c r2 q2 0 (.slice o3 s.f.kids.length c3) (.slice o4 s.store.length c4) (.slice o5 s.out.length c5) (.slice o6 s.k.l.length c6) (w2.setCells w.heap.size 0 (stA s (.slice o3 s.f.kids.length c3) (.slice o4 s.store.length c4) (.slice o5 s.out.length c5) (.slice o6 s.k.l.length c6)).toList)):=y44h ⟨(zcc _ 0 OA.out).whole (by rfl),O1.out.stored HSR.out (by omega),O2.out.stored HSR.out (by omega),OT.out.stored HSR.out (by omega),HSR.out.bel (Nat.le_refl _) BEL.out,SX.out.stored HSR.out (by show _ < _ ∨ _;omega)⟩
 clear OA O1 O2 OT BEL SX HSR HS CS
 revert CX
 generalize World.setCells _ _ _ _=W3
 intro CX
 try simp only [Act.put]
 have lA:=CX.out.a.cell
 have zA:=CX.out.a.lt
 have fA:=CX.out.a.free
 have lO:=CX.out.o1.cell
 have zO:=CX.out.o1.lt
 have lN:=CX.out.o2.cell
 have zN:=CX.out.o2.lt
 generalize hgt:getI s.store id=gt at *
 obtain ⟨y,th⟩:=gt
 have HGT:=y44h hgt
 clear hgt
 go_upto_region 3 with (go_at_call 61;refine (CG _ _ CX.out.s.now.ls).out.mono ?_;rintro e wg ⟨rfl,hb⟩;clear lA zA fA lO zO lN zN;replace CX:=y44h (CX.out.later hb);clear hb;have lA:=CX.out.a.cell;have zA:=CX.out.a.lt;have fA:=CX.out.a.free;have lO:=CX.out.o1.cell;have zO:=CX.out.o1.lt;have lN:=CX.out.o2.cell;have zN:=CX.out.o2.lt;have OY:=y44h (Own.new wg (iA y) 58))
 clear lA zA fA lO zO lN zN
 have zby:=CX.out.t.lt
 have CX2:Hid (GoX w s r c r2 q2 wg.heap.size (.slice o3 s.f.kids.length c3) (.slice o4 s.store.length c4) (.slice o5 s.out.length c5) (.slice o6 s.k.l.length c6) (wg.alloc (.cells (iA y) 58))):=y44h (by
   have hb:Below wg.heap.size wg (wg.alloc (.cells (iA y) 58)):=(Below.refl _ _).alloc (Nat.le_refl _) _
   have h:=CX.out.later hb
   exact ⟨h.a,h.o1,h.o2,h.t,h.b,(CX.out.s.fresh hb (Nat.le_refl _)).mono (fun b hb=>by rcases hb with h | h;exact .inl (.inl h);exact .inr h)⟩)
 clear CX
 have CX:=CX2
 clear CX2
 revert CX
 revert OY
 generalize World.alloc _ _=W4
 generalize wg.heap.size=by_ at *
 intro OY CX
 try simp only [Act.put]
 have lA:=CX.out.a.cell
 have zA:=CX.out.a.lt
 have fA:=CX.out.a.free
 have lO:=CX.out.o1.cell
 have zO:=CX.out.o1.lt
 have lN:=CX.out.o2.cell
 have zN:=CX.out.o2.lt
 have lY:=OY.out.cell
 have zY:=OY.out.lt
 have fY:=OY.out.free
 by_cases hw:th=true∧y.r=r∧y.c=c
 case neg =>
   have eS:=y44h (HRS.out.symm.trans (HA.out hw))
   have ways:th=false ∨ (th=true∧¬ y.r=r) ∨ (th=true∧y.r=r∧¬ y.c=c):=by
     cases th
     · exact .inl rfl
     · by_cases h1:y.r=r
       · exact .inr (.inr ⟨rfl,h1,fun h2=>hw ⟨rfl,h1,h2⟩⟩)
       · exact .inr (.inl ⟨rfl,h1⟩)
   clear hw
   rcases ways with rfl | ⟨rfl,hne⟩ | ⟨rfl,hr1,hne⟩
   · go_upto_region 4 with fail
     clear lY zY fY OY
     clear lA zA fA lO zO lN zN
     have lA:=CX.out.a.cell
     have zA:=CX.out.a.lt
     have fA:=CX.out.a.free
     have lO:=CX.out.o1.cell
     have zO:=CX.out.o1.lt
     have lN:=CX.out.o2.cell
     have zN:=CX.out.o2.lt
     go_wp2_with (first
       | (refine wpList_load_mid (by rfl) 40 _ (by rfl) w.heap.size 0 (by rfl) (stA s (.slice o3 s.f.kids.length c3) (.slice o4 s.store.length c4) (.slice o5 s.out.length c5) (.slice o6 s.k.l.length c6)).toList _ (by exact CX.out.a.part 0 _ (by rfl)) Tryz.underlying40 (by rfl) (by kernel_rfl) ?_)
       | (refine wpList_store_mid (by rfl) 40 _ _ (by rfl) (w.heap.size + 3) 0 (stA s (.slice o3 s.f.kids.length c3) (.slice o4 s.store.length c4) (.slice o5 s.out.length c5) (.slice o6 s.k.l.length c6)) (by rfl) (by rfl) (by exact za0 CX.out.t 0 (by simp)) (by kernel_rfl) (by simp [Value.oneCell']) ?_)
       | fail)
     have HK:=y44h CX.out.fin
     clear lA zA fA lO zO lN zN
     revert HK
     generalize World.setCells _ _ _ _=WW
     intro HK
     exact zbm (by rfl) (by rfl) (l:=(stA s (.slice o3 s.f.kids.length c3) (.slice o4 s.store.length c4) (.slice o5 s.out.length c5) (.slice o6 s.k.l.length c6)).toList) HK.out.1.range Tryz.underlying40 (by rfl) (by kernel_rfl) rfl ⟨(.slice o3 s.f.kids.length c3),(.slice o4 s.store.length c4),(.slice o5 s.out.length c5),(.slice o6 s.k.l.length c6),by rw [eS.out],by rw [eS.out];exact HK.out.2.1,HK.out.2.2⟩
   · go_upto_region 4 with fail
     clear lY zY fY OY hne
     clear lA zA fA lO zO lN zN
     have lA:=CX.out.a.cell
     have zA:=CX.out.a.lt
     have fA:=CX.out.a.free
     have lO:=CX.out.o1.cell
     have zO:=CX.out.o1.lt
     have lN:=CX.out.o2.cell
     have zN:=CX.out.o2.lt
     go_wp2_with (first
       | (refine wpList_load_mid (by rfl) 40 _ (by rfl) w.heap.size 0 (by rfl) (stA s (.slice o3 s.f.kids.length c3) (.slice o4 s.store.length c4) (.slice o5 s.out.length c5) (.slice o6 s.k.l.length c6)).toList _ (by exact CX.out.a.part 0 _ (by rfl)) Tryz.underlying40 (by rfl) (by kernel_rfl) ?_)
       | (refine wpList_store_mid (by rfl) 40 _ _ (by rfl) (w.heap.size + 3) 0 (stA s (.slice o3 s.f.kids.length c3) (.slice o4 s.store.length c4) (.slice o5 s.out.length c5) (.slice o6 s.k.l.length c6)) (by rfl) (by rfl) (by exact za0 CX.out.t 0 (by simp)) (by kernel_rfl) (by simp [Value.oneCell']) ?_)
       | fail)
     have HK:=y44h CX.out.fin
     clear lA zA fA lO zO lN zN
     revert HK
     generalize World.setCells _ _ _ _=WW
     intro HK
     exact zbm (by rfl) (by rfl) (l:=(stA s (.slice o3 s.f.kids.length c3) (.slice o4 s.store.length c4) (.slice o5 s.out.length c5) (.slice o6 s.k.l.length c6)).toList) HK.out.1.range Tryz.underlying40 (by rfl) (by kernel_rfl) rfl ⟨(.slice o3 s.f.kids.length c3),(.slice o4 s.store.length c4),(.slice o5 s.out.length c5),(.slice o6 s.k.l.length c6),by rw [eS.out],by rw [eS.out];exact HK.out.2.1,HK.out.2.2⟩
   · subst hr1
     go_upto_region 4 with fail
     clear lY zY fY OY hne
     clear lA zA fA lO zO lN zN
     have lA:=CX.out.a.cell
     have zA:=CX.out.a.lt
     have fA:=CX.out.a.free
     have lO:=CX.out.o1.cell
     have zO:=CX.out.o1.lt
     have lN:=CX.out.o2.cell
     have zN:=CX.out.o2.lt
     go_wp2_with (first
       | (refine wpList_load_mid (by rfl) 40 _ (by rfl) w.heap.size 0 (by rfl) (stA s (.slice o3 s.f.kids.length c3) (.slice o4 s.store.length c4) (.slice o5 s.out.length c5) (.slice o6 s.k.l.length c6)).toList _ (by exact CX.out.a.part 0 _ (by rfl)) Tryz.underlying40 (by rfl) (by kernel_rfl) ?_)
       | (refine wpList_store_mid (by rfl) 40 _ _ (by rfl) (w.heap.size + 3) 0 (stA s (.slice o3 s.f.kids.length c3) (.slice o4 s.store.length c4) (.slice o5 s.out.length c5) (.slice o6 s.k.l.length c6)) (by rfl) (by rfl) (by exact za0 CX.out.t 0 (by simp)) (by kernel_rfl) (by simp [Value.oneCell']) ?_)
       | fail)
     have HK:=y44h CX.out.fin
     clear lA zA fA lO zO lN zN
     revert HK
     generalize World.setCells _ _ _ _=WW
     intro HK
     exact zbm (by rfl) (by rfl) (l:=(stA s (.slice o3 s.f.kids.length c3) (.slice o4 s.store.length c4) (.slice o5 s.out.length c5) (.slice o6 s.k.l.length c6)).toList) HK.out.1.range Tryz.underlying40 (by rfl) (by kernel_rfl) rfl ⟨(.slice o3 s.f.kids.length c3),(.slice o4 s.store.length c4),(.slice o5 s.out.length c5),(.slice o6 s.k.l.length c6),by rw [eS.out],by rw [eS.out];exact HK.out.2.1,HK.out.2.2⟩
 obtain ⟨rfl,hr,hc⟩:=hw
 subst hr hc
 have hym:=y44h (HMAY.out rfl)
 have hmay:=y44h (zrk (s:=s) (id:=id) (r2:=r2) (q2:=q2) hym.out)
 go_upto_region 6 with (go_at_call 65;refine (CD _ _ CX.out.s.now.ls).out.mono ?_;rintro e w8 ⟨v8,rfl,hr8,hb⟩;obtain ⟨o8,c8,ev8⟩:=hr8.len;generalize (s.store.filter (neB id)).length=n8 at ev8;subst ev8;have zt:=CX.out.t.lt;have HOK:=y44h CX.out.s.now.ls.oks;have SS:=y44h ((OwnI.sure hr8 (fun i hi=>HOK.out i (List.mem_filter.1 hi).1)).mono (T':=fun b=>b < w.heap.size + 4 ∨ b=by_) (fun b hb=>by have hb':b < w.heap.size + 4 ∨ b=by_:=hb;show b < _;omega));clear lY zY fY hr8 zt;clear lA zA fA lO zO lN zN;replace OY:=y44h (OY.out.later hb);have zb8:=hb.size;replace CX:=y44h (CX.out.later hb);clear hb;have lA:=CX.out.a.cell;have zA:=CX.out.a.lt;have fA:=CX.out.a.free;have lO:=CX.out.o1.cell;have zO:=CX.out.o1.lt;have lN:=CX.out.o2.cell;have zN:=CX.out.o2.lt)
 have HSR:=y44h (StoreR.sets w.heap.size [.slice o8 n8 c8] w8 6)
 have KEY:Hid (GoX w (zbz s id) y.r y.c r2 q2 by_ (.slice o3 s.f.kids.length c3) (.slice o8 n8 c8) (.slice o5 s.out.length c5) (.slice o6 s.k.l.length c6) (w8.setCell ⟨w.heap.size,6,none⟩ (.slice o8 n8 c8))):=y44h ⟨(by have h:=CX.out.a.set 6 (.slice o8 n8 c8);rw [zet] at h;exact h),CX.out.o1.stored HSR.out (by omega),CX.out.o2.stored HSR.out (by omega),CX.out.t.stored HSR.out (by omega),HSR.out.bel (Nat.le_refl _) CX.out.b,fun w2 h2=>⟨(CX.out.s.stored HSR.out (by show _ < _ ∨ _;omega) w2 h2).lf,SS.out.stored HSR.out (by show _ < _ ∨ _;omega) w2 h2,(CX.out.s.stored HSR.out (by show _ < _ ∨ _;omega) w2 h2).lo,(CX.out.s.stored HSR.out (by show _ < _ ∨ _;omega) w2 h2).lk⟩⟩
 have KEY2:Hid (Own (w8.setCell ⟨w.heap.size,6,none⟩ (.slice o8 n8 c8)) by_ (iA y) 58):=y44h (OY.out.stored HSR.out (by omega))
 clear CX HSR SS OY CD CG HOK
 clear lA zA fA lO zO lN zN
 revert KEY KEY2
 generalize World.setCell _ _ _=W9
 intro CX OY
 try simp only [Act.put]
 have lA:=CX.out.a.cell
 have zA:=CX.out.a.lt
 have fA:=CX.out.a.free
 have lO:=CX.out.o1.cell
 have zO:=CX.out.o1.lt
 have lN:=CX.out.o2.cell
 have zN:=CX.out.o2.lt
 have lY:=OY.out.cell
 have zY:=OY.out.lt
 have fY:=OY.out.free
 go_upto_region 7 with fail
 have HSR:=y44h (StoreR.sets by_ [.int .i64 r2,.int .i64 q2] W9 1)
 have KEY:Hid (GoX w (zbz s id) y.r y.c r2 q2 by_ (.slice o3 s.f.kids.length c3) (.slice o8 n8 c8) (.slice o5 s.out.length c5) (.slice o6 s.k.l.length c6) ((W9.setCell ⟨by_,1,none⟩ (.int .i64 r2)).setCell ⟨by_,2,none⟩ (.int .i64 q2))):=y44h ⟨CX.out.a.stored HSR.out (by omega),CX.out.o1.stored HSR.out (by omega),CX.out.o2.stored HSR.out (by omega),CX.out.t.stored HSR.out (by omega),HSR.out.bel (by omega) CX.out.b,CX.out.s.stored HSR.out (.inr rfl)⟩
 have KEY2:Hid (Own ((W9.setCell ⟨by_,1,none⟩ (.int .i64 r2)).setCell ⟨by_,2,none⟩ (.int .i64 q2)) by_ (iA (zhg y r2 q2)) 58):=y44h (by have h:=(OY.out.set 1 (.int .i64 r2)).set 2 (.int .i64 q2);exact h)
 clear CX HSR OY lY zY fY
 clear lA zA fA lO zO lN zN
 revert KEY KEY2
 generalize World.setCell (World.setCell _ _ _) _ _=W10
 intro CX OY
 try simp only [Act.put]
 by_cases hv:verB r2 q2=true∧(r2 ≠ s.r ∨ q2≤s.count)
 · rw [decide_eq_true hv] at hmay
   have eS:=y44h (HRS.out.symm.trans (HCC.out ⟨(by first | trivial | rfl),(by first | trivial | rfl),(by first | trivial | rfl)⟩ hv))
   clear hv
   go_upto_region 8 with (first
     | (refine wpList_load_mid (by rfl) 40 _ (by rfl) w.heap.size 0 (by rfl) (stA (zbz s id) (.slice o3 s.f.kids.length c3) (.slice o8 n8 c8) (.slice o5 s.out.length c5) (.slice o6 s.k.l.length c6)).toList _ (by exact CX.out.a.part 0 _ (by rfl)) Tryz.underlying40 (by rfl) (by kernel_rfl) ?_)
     | (refine wpList_load_mid (by rfl) 58 _ (by rfl) by_ 0 (by rfl) (ic (zhg y r2 q2)) _ (by exact OY.out.part 0 _ (by rfl)) Tryz.underlying58 (by rfl) (by kernel_rfl) ?_)
     | (go_at_call 59;refine (hmay.out ▸ (CC _ _ _ _ _ _).out).mono ?_;rintro e wc ⟨rfl,hb⟩;replace CX:=y44h (CX.out.later hb);replace OY:=y44h (OY.out.later hb);clear hb)
     | fail)
   have lA:=CX.out.a.cell
   have zA:=CX.out.a.lt
   have fA:=CX.out.a.free
   have lO:=CX.out.o1.cell
   have zO:=CX.out.o1.lt
   have lN:=CX.out.o2.cell
   have zN:=CX.out.o2.lt
   go_upto_region 9 with (first
     | (refine wpList_load_mid (by rfl) 38 _ (by rfl) w.heap.size 8 (by rfl) (knA s.k.star (.slice o6 s.k.l.length c6)).toList _ (by exact CX.out.a.part 8 _ (by rfl)) Tryz.underlying38 (by rfl) (by kernel_rfl) ?_)
     | (go_at_call 64;refine (CW _ _ CX.out.s.now.lk).out.mono ?_;rintro e e7w ⟨v7,rfl,hf7,hb⟩;obtain ⟨o7,c7,ev7⟩:=hf7.fr.val;generalize (zah (zal s.k id r2 q2)).l.length=n7 at ev7;subst ev7;have zt:=CX.out.t.lt;have zy:=OY.out.lt;have SK:=y44h (hf7.sure.mono (T':=fun b=>b < w.heap.size + 4 ∨ b=by_) (fun b hb=>by have hb':b < w.heap.size + 4 ∨ b=by_:=hb;show b < _;omega));clear lA zA fA lO zO lN zN;clear hf7 zt zy;replace CX:=y44h (CX.out.later hb);clear hb;have lA:=CX.out.a.cell;have zA:=CX.out.a.lt;have fA:=CX.out.a.free;have lO:=CX.out.o1.cell;have zO:=CX.out.o1.lt;have lN:=CX.out.o2.cell;have zN:=CX.out.o2.lt)
     | (refine wpList_store_mid (by rfl) 38 _ _ (by rfl) w.heap.size 8 (knA s.k.star (.slice o7 n7 c7)) (by rfl) (by rfl) (by exact za0 CX.out.a 8 (by simp)) (by kernel_rfl) (by simp [Value.oneCell']) ?_)
     | fail)
   have HSR:=y44h (StoreR.sets w.heap.size (knA s.k.star (.slice o7 n7 c7)).toList e7w 8)
   have KEY:Hid (GoX w ⟨s.r,s.f,s.store.filter (neB id),s.out,zcs s id r2 q2,s.count,s.clock,s.epoch⟩ y.r y.c r2 q2 by_ (.slice o3 s.f.kids.length c3) (.slice o8 n8 c8) (.slice o5 s.out.length c5) (.slice o7 n7 c7) (e7w.setCells w.heap.size 8 (knA s.k.star (.slice o7 n7 c7)).toList)):=y44h ⟨(by have h:=zcc (knA s.k.star (.slice o7 n7 c7)).toList 8 CX.out.a;rw [zfq (zbz s id) s.k.star (zah (zal s.k id r2 q2)).l] at h;exact h),CX.out.o1.stored HSR.out (by omega),CX.out.o2.stored HSR.out (by omega),CX.out.t.stored HSR.out (by omega),HSR.out.bel (Nat.le_refl _) CX.out.b,fun w2 h2=>⟨(CX.out.s.stored HSR.out (by show _ < _ ∨ _;omega) w2 h2).lf,(CX.out.s.stored HSR.out (by show _ < _ ∨ _;omega) w2 h2).ls,(CX.out.s.stored HSR.out (by show _ < _ ∨ _;omega) w2 h2).lo,SK.out.stored HSR.out (by show _ < _ ∨ _;omega) w2 h2⟩⟩
   clear CX HSR SK OY
   clear lA zA fA lO zO lN zN
   revert KEY
   generalize World.setCells _ _ _ _=W11
   intro CX
   try simp only [Act.put]
   have lA:=CX.out.a.cell
   have zA:=CX.out.a.lt
   have fA:=CX.out.a.free
   have lO:=CX.out.o1.cell
   have zO:=CX.out.o1.lt
   have lN:=CX.out.o2.cell
   have zN:=CX.out.o2.lt
   go_wp2_with (first
     | (refine wpList_load_mid (by rfl) 40 _ (by rfl) w.heap.size 0 (by rfl) (stA ⟨s.r,s.f,s.store.filter (neB id),s.out,zcs s id r2 q2,s.count,s.clock,s.epoch⟩ (.slice o3 s.f.kids.length c3) (.slice o8 n8 c8) (.slice o5 s.out.length c5) (.slice o7 n7 c7)).toList _ (by exact CX.out.a.part 0 _ (by rfl)) Tryz.underlying40 (by rfl) (by kernel_rfl) ?_)
     | (refine wpList_store_mid (by rfl) 40 _ _ (by rfl) (w.heap.size + 3) 0 (stA ⟨s.r,s.f,s.store.filter (neB id),s.out,zcs s id r2 q2,s.count,s.clock,s.epoch⟩ (.slice o3 s.f.kids.length c3) (.slice o8 n8 c8) (.slice o5 s.out.length c5) (.slice o7 n7 c7)) (by rfl) (by rfl) (by exact za0 CX.out.t 0 (by simp)) (by kernel_rfl) (by simp [Value.oneCell']) ?_)
     | fail)
   have HK:=y44h CX.out.fin
   clear lA zA fA lO zO lN zN
   revert HK
   generalize World.setCells _ _ _ _=WW
   intro HK
   exact zbm (by rfl) (by rfl) (l:=(stA ⟨s.r,s.f,s.store.filter (neB id),s.out,zcs s id r2 q2,s.count,s.clock,s.epoch⟩ (.slice o3 s.f.kids.length c3) (.slice o8 n8 c8) (.slice o5 s.out.length c5) (.slice o7 n7 c7)).toList) HK.out.1.range Tryz.underlying40 (by rfl) (by kernel_rfl) rfl ⟨(.slice o3 s.f.kids.length c3),(.slice o8 n8 c8),(.slice o5 s.out.length c5),(.slice o7 n7 c7),by rw [eS.out],by rw [eS.out];exact HK.out.2.1,HK.out.2.2⟩
 · rw [decide_eq_false hv] at hmay
   have eS:=y44h (HRS.out.symm.trans (HBB.out ⟨(by first | trivial | rfl),(by first | trivial | rfl),(by first | trivial | rfl)⟩ hv))
   clear hv
   go_upto_region 9 with (first
     | (refine wpList_load_mid (by rfl) 40 _ (by rfl) w.heap.size 0 (by rfl) (stA (zbz s id) (.slice o3 s.f.kids.length c3) (.slice o8 n8 c8) (.slice o5 s.out.length c5) (.slice o6 s.k.l.length c6)).toList _ (by exact CX.out.a.part 0 _ (by rfl)) Tryz.underlying40 (by rfl) (by kernel_rfl) ?_)
     | (refine wpList_load_mid (by rfl) 58 _ (by rfl) by_ 0 (by rfl) (ic (zhg y r2 q2)) _ (by exact OY.out.part 0 _ (by rfl)) Tryz.underlying58 (by rfl) (by kernel_rfl) ?_)
     | (go_at_call 59;refine (hmay.out ▸ (CC _ _ _ _ _ _).out).mono ?_;rintro e wc ⟨rfl,hb⟩;replace CX:=y44h (CX.out.later hb);replace OY:=y44h (OY.out.later hb);clear hb)
     | fail)
   have lA:=CX.out.a.cell
   have zA:=CX.out.a.lt
   have fA:=CX.out.a.free
   have lO:=CX.out.o1.cell
   have zO:=CX.out.o1.lt
   have lN:=CX.out.o2.cell
   have zN:=CX.out.o2.lt
   go_wp2_with (first
     | (refine wpList_load_mid (by rfl) 40 _ (by rfl) w.heap.size 0 (by rfl) (stA (zbz s id) (.slice o3 s.f.kids.length c3) (.slice o8 n8 c8) (.slice o5 s.out.length c5) (.slice o6 s.k.l.length c6)).toList _ (by exact CX.out.a.part 0 _ (by rfl)) Tryz.underlying40 (by rfl) (by kernel_rfl) ?_)
     | (refine wpList_store_mid (by rfl) 40 _ _ (by rfl) (w.heap.size + 3) 0 (stA (zbz s id) (.slice o3 s.f.kids.length c3) (.slice o8 n8 c8) (.slice o5 s.out.length c5) (.slice o6 s.k.l.length c6)) (by rfl) (by rfl) (by exact za0 CX.out.t 0 (by simp)) (by kernel_rfl) (by simp [Value.oneCell']) ?_)
     | fail)
   have HK:=y44h CX.out.fin
   clear lA zA fA lO zO lN zN
   revert HK
   generalize World.setCells _ _ _ _=WW
   intro HK
   exact zbm (by rfl) (by rfl) (l:=(stA (zbz s id) (.slice o3 s.f.kids.length c3) (.slice o8 n8 c8) (.slice o5 s.out.length c5) (.slice o6 s.k.l.length c6)).toList) HK.out.1.range Tryz.underlying40 (by rfl) (by kernel_rfl) rfl ⟨(.slice o3 s.f.kids.length c3),(.slice o8 n8 c8),(.slice o5 s.out.length c5),(.slice o6 s.k.l.length c6),by rw [eS.out],by rw [eS.out];exact HK.out.2.1,HK.out.2.2⟩
end Go.Proofs.YtodfhabkdaiopaaGreat
