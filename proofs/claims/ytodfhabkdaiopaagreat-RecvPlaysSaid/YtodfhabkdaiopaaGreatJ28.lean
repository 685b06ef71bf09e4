/- Joined: RowF, OpenSt, LocH, KPlS. -/
import Derived.Test.YtodfhabkdaiopaaGreatJ26
import Derived.Test.YtodfhabkdaiopaaGreatJ18
import Derived.Test.YtodfhabkdaiopaaGreatJ17
import Derived.Test.YtodfhabkdaiopaaGreatJ24
import Derived.Test.YtodfhabkdaiopaaGreatJ16
import Derived.Test.YtodfhabkdaiopaaGreatJ19
import Derived.Test.YtodfhabkdaiopaaGreatJ05
import Derived.Deep.RegionHeld3
import Derived.Test.YtodfhabkdaiopaaGreatJ13
import Derived.Test.YtodfhabkdaiopaaGreatJ20
namespace Go.Proofs.YtodfhabkdaiopaaGreat
set_option linter.unusedVariables false
set_option linter.unusedSimpArgs false
set_option maxRecDepth 100000
set_option maxHeartbeats 8000000
open Go.RowKit
theorem y28h {p:Prop} (h:p):Go.RowKit.Hid p:=Lib.hid h
def RowF (w:World) (B:Nat) (l:List Itm) (v:Value):Prop:=∃ oa cap b o,v=.slice oa l.length cap∧RowAt 8 ic w l oa cap b o∧(0 < l.length→B≤b)
theorem RowF.row {w:World} {B:Nat} {l:List Itm} {v:Value} (h:RowF w B l v):Row 8 ic w l v:=by
 obtain ⟨oa,cap,b,o,e,h,_⟩:=h;exact ⟨oa,cap,b,o,e,h⟩
theorem RowF.later {w w':World} {B:Nat} {l:List Itm} {v:Value} (h:RowF w B l v) (hb:Below w.heap.size w w'):RowF w' B l v:=by
 obtain ⟨oa,cap,b,o,e,h,h2⟩:=h;exact ⟨oa,cap,b,o,e,h.later hb,h2⟩
theorem RowF.sub {w w':World} {B:Nat} {l:List Itm} {v:Value} (h:RowF w B l v) (hs:w.heap.size≤w'.heap.size) (hc:∀ b o,B≤b→w'.cell? ⟨b,o,none⟩=w.cell? ⟨b,o,none⟩):RowF w' B l v:=by
 obtain ⟨oa,cap,b,o,e,h,h2⟩:=h
 refine ⟨oa,cap,b,o,e,⟨h.len,h.max,fun h0=>⟨(h.at0 h0).1,Nat.lt_of_lt_of_le (h.at0 h0).2 hs⟩,fun k i hk j u hu=>?_,h.ok⟩,h2⟩
 rw [hc _ _ (h2 (by have:=zbo hk;omega))]
 exact h.cell k i hk j u hu
theorem RowF.set {w:World} {B:Nat} {l:List Itm} {v:Value} (h:RowF w B l v) {b q:Nat} (hb:b < B) (u:Value):RowF (w.setCell ⟨b,q,none⟩ u) B l v :=
 h.sub (by simp [World.setCell]) fun b' o hb'=>by
   apply World.cell?_setCell_other
   intro e
   have:b=b':=congrArg Addr.block e
   omega
theorem RowF.sets {B b:Nat} {l:List Itm} {v:Value} (hb:b < B) (vs:List Value):∀ {w:World} (o:Nat),RowF w B l v→RowF (w.setCells b o vs) B l v:=by
 induction vs with
 | nil=>intro w o h;exact h
 | cons u r ih=>intro w o h;exact ih (o + 1) (h.set hb u)
theorem RowF.mono {w:World} {B B':Nat} {l:List Itm} {v:Value} (h:RowF w B l v) (hb:B'≤B):RowF w B' l v:=by
 obtain ⟨oa,cap,b,o,e,h,h2⟩:=h;exact ⟨oa,cap,b,o,e,h,fun h0=>Nat.le_trans hb (h2 h0)⟩
theorem OwnI.rowF {w:World} {B:Nat} {l:List Itm} {v:Value} (h:OwnI w B l v) (hok:∀ i∈l,i.id.size≤maxLen∧i.kd.size≤maxLen):RowF w B l v:=by
 obtain ⟨oa,cap,g,e,h1,h2,hg⟩:=zaq h
 have hr:=h.row hok
 subst e
 refine ⟨oa,cap,g,0,rfl,⟨h1,h2,fun h0=>⟨(hg h0).1,(hg h0).2.2⟩,fun k i hk j u hu=>?_,hok⟩,fun h0=>(hg h0).2.1⟩
 obtain ⟨oa',cap',b',o',e',hr'⟩:=hr
 cases e'
 have h0:0 < l.length:=by have:=zbo hk;omega
 have e1:=(hg h0).1
 rw [(hr'.at0 h0).1] at e1
 cases e1
 exact hr'.cell k i hk j u hu
def zam (s:St) (x:Itm):List Itm:=if hasT s.f x=true then putI (s.store.filter (neB x.id)) x else s.store.filter (neB x.id)
def laidOut (s:St) (x:Itm) (keep:Bool):List Itm:=if hasT s.f x=true then s.out.filter (neB x.id) else if keep=true then putI (s.out.filter (neB x.id)) x else s.out.filter (neB x.id)
def zbv (s:St) (x:Itm) (keep:Bool):St:=⟨s.r,s.f,zam s x,laidOut s x keep,s.k,s.count,s.clock,s.epoch⟩
theorem zet (s:St) (fv sv ov kv v:Value):(stA s fv sv ov kv).setIfInBounds 6 v=stA s fv v ov kv:=by simp
theorem zj9 (s:St) (fv sv ov kv v:Value):(stA s fv sv ov kv).setIfInBounds 7 v=stA s fv sv v kv:=by simp
theorem ze3 (s:St) (fv sv ov kv:Value) (x:Itm) (keep:Bool) (w:World) (hS:StW w s fv sv ov kv) (hx:x.id.size≤maxLen∧x.kd.size≤maxLen) (hf:s.f.size≤1000) (h1:s.store.length≤1000) (h2:s.out.length≤1000) :
   Calls Tryz.prog 71 #[stV s fv sv ov kv,iV x,.bool keep] w fun e w'=>∃ sv' ov',e=.returned (stV (zbv s x keep) fv sv' ov' kv)∧(StW w' (zbv s x keep) fv sv' ov' kv∧RowF w' w.heap.size (zam s x) sv'∧RowF w' w.heap.size (laidOut s x keep) ov')∧Below w.heap.size w w':=by
 have OA:=y28h (((Own.new w (stA s fv sv ov kv) 40).alloc (.cells (iA x) 58)).alloc (.cells stZ.toArray 40))
 have OX:=y28h ((Own.newAt (w.alloc (.cells (stA s fv sv ov kv) 40)) (iA x) 58 (b:=w.heap.size + 1) (by simp)).alloc (.cells stZ.toArray 40))
 have OT:=y28h (Own.newAt ((w.alloc (.cells (stA s fv sv ov kv) 40)).alloc (.cells (iA x) 58)) stZ.toArray 40 (b:=w.heap.size + 1 + 1) (by simp))
 have BEL:=y28h ((((Below.refl w.heap.size w).alloc (Nat.le_refl _) (.cells (stA s fv sv ov kv) 40)).alloc (by simp) (.cells (iA x) 58)).alloc (by simp;omega) (.cells stZ.toArray 40))
 have HW:=y28h hS
 have HOK1:=y28h hS.ls.oks
 have HOK2:=y28h hS.lo.oks
 have D1:=fun w' h=>y28h (ze2 s.store x.id sv w' h (by omega))
 have D2:=fun w' h=>y28h (ze2 s.out x.id ov w' h (by omega))
 have P1:=fun v w' h=>y28h (zei (s.store.filter (neB x.id)) x v w' h (Nat.le_trans (List.length_filter_le _ _) (by omega)))
 have P2:=fun v w' h=>y28h (zei (s.out.filter (neB x.id)) x v w' h (Nat.le_trans (List.length_filter_le _ _) (by omega)))
 have C:=fun w' h=>y28h (zkt x hx.1 s.f fv w' h hf)
 clear hS
 have lOA:=OA.out.cell
 have zOA:=OA.out.lt
 have lOX:=OX.out.cell
 have zOX:=OX.out.lt
 have fOA:=OA.out.free 6
 go_enter Tryz.func71,Tryz.ntmps71
 go_upto_region 2 with (first | (go_at_call 72;with_reducible refine (D1 _ (HW.out.ls.since BEL.out)).out.mono ?_;rintro e w1 ⟨v1,rfl,hr,hb⟩;obtain ⟨o1,c1,rfl⟩:=hr.len;have L1:=y28h ((OwnI.rowF hr (fun i hi=>HOK1.out i (List.mem_filter.1 hi).1)).mono (B':=w.heap.size + 1 + 1 + 1) (by simp;try omega));replace OA:=y28h (OA.out.later hb);replace OX:=y28h (OX.out.later hb);replace OT:=y28h (OT.out.later hb);replace BEL:=y28h (BEL.out.trans (hb.mono BEL.out.size));clear hb hr;replace lOA:=OA.out.cell;replace zOA:=OA.out.lt;replace fOA:=OA.out.free 6;replace lOX:=OX.out.cell;replace zOX:=OX.out.lt) | fail)
 have HP:=y28h (show Own (w1.setCell ⟨w.heap.size,6,none⟩ (.slice o1 (s.store.filter (neB x.id)).length c1)) w.heap.size (stA s fv (.slice o1 (s.store.filter (neB x.id)).length c1) ov kv) 40∧Own (w1.setCell ⟨w.heap.size,6,none⟩ (.slice o1 (s.store.filter (neB x.id)).length c1)) (w.heap.size + 1) (iA x) 58∧Own (w1.setCell ⟨w.heap.size,6,none⟩ (.slice o1 (s.store.filter (neB x.id)).length c1)) (w.heap.size + 1 + 1) stZ.toArray 40∧Below w.heap.size w (w1.setCell ⟨w.heap.size,6,none⟩ (.slice o1 (s.store.filter (neB x.id)).length c1))∧RowF (w1.setCell ⟨w.heap.size,6,none⟩ (.slice o1 (s.store.filter (neB x.id)).length c1)) (w.heap.size + 1 + 1 + 1) (s.store.filter (neB x.id)) (.slice o1 (s.store.filter (neB x.id)).length c1) from ⟨by rw [← zet s fv sv ov kv (.slice o1 (s.store.filter (neB x.id)).length c1)];exact OA.out.set 6 _,OX.out.setFar _ _ (by show w.heap.size + 1 ≠ w.heap.size;omega),OT.out.setFar _ _ (by show w.heap.size + 1 + 1 ≠ w.heap.size;omega),BEL.out.setCell (p:=⟨w.heap.size,6,none⟩) (Nat.le_refl _) _,L1.out.set (by omega) _⟩)
 clear OA OX OT BEL L1 lOA zOA fOA lOX zOX
 revert HP
 generalize w1.setCell ⟨w.heap.size,6,none⟩ (.slice o1 (s.store.filter (neB x.id)).length c1)=W1
 intro HP
 obtain ⟨oa_,ox_,ot_,be_,r0_⟩:=HP.out
 have OA:=y28h oa_
 have OX:=y28h ox_
 have OT:=y28h ot_
 have BEL:=y28h be_
 have L1:=y28h r0_
 clear oa_ ox_ ot_ be_ r0_ HP
 have lOA:=OA.out.cell
 have zOA:=OA.out.lt
 have fOA:=OA.out.free 7
 have lOX:=OX.out.cell
 have zOX:=OX.out.lt
 go_upto_region 3 with (first | (go_at_call 72;with_reducible refine (D2 _ (HW.out.lo.since BEL.out)).out.mono ?_;rintro e w2 ⟨v2,rfl,hr,hb⟩;obtain ⟨o2,c2,rfl⟩:=hr.len;have L2:=y28h ((OwnI.rowF hr (fun i hi=>HOK2.out i (List.mem_filter.1 hi).1)).mono (B':=w.heap.size + 1 + 1 + 1) (by have:=OT.out.lt;omega));replace OA:=y28h (OA.out.later hb);replace OX:=y28h (OX.out.later hb);replace OT:=y28h (OT.out.later hb);replace BEL:=y28h (BEL.out.trans (hb.mono BEL.out.size));replace L1:=y28h (L1.out.later hb);clear hb hr;replace lOA:=OA.out.cell;replace zOA:=OA.out.lt;replace fOA:=OA.out.free 7;replace lOX:=OX.out.cell;replace zOX:=OX.out.lt) | fail)
 have HP:=y28h (show Own (w2.setCell ⟨w.heap.size,7,none⟩ (.slice o2 (s.out.filter (neB x.id)).length c2)) w.heap.size (stA s fv (.slice o1 (s.store.filter (neB x.id)).length c1) (.slice o2 (s.out.filter (neB x.id)).length c2) kv) 40∧Own (w2.setCell ⟨w.heap.size,7,none⟩ (.slice o2 (s.out.filter (neB x.id)).length c2)) (w.heap.size + 1) (iA x) 58∧Own (w2.setCell ⟨w.heap.size,7,none⟩ (.slice o2 (s.out.filter (neB x.id)).length c2)) (w.heap.size + 1 + 1) stZ.toArray 40∧Below w.heap.size w (w2.setCell ⟨w.heap.size,7,none⟩ (.slice o2 (s.out.filter (neB x.id)).length c2))∧RowF (w2.setCell ⟨w.heap.size,7,none⟩ (.slice o2 (s.out.filter (neB x.id)).length c2)) (w.heap.size + 1 + 1 + 1) (s.store.filter (neB x.id)) (.slice o1 (s.store.filter (neB x.id)).length c1)∧RowF (w2.setCell ⟨w.heap.size,7,none⟩ (.slice o2 (s.out.filter (neB x.id)).length c2)) (w.heap.size + 1 + 1 + 1) (s.out.filter (neB x.id)) (.slice o2 (s.out.filter (neB x.id)).length c2) from ⟨by rw [← zj9 s fv (.slice o1 (s.store.filter (neB x.id)).length c1) ov kv (.slice o2 (s.out.filter (neB x.id)).length c2)];exact OA.out.set 7 _,OX.out.setFar _ _ (by show w.heap.size + 1 ≠ w.heap.size;omega),OT.out.setFar _ _ (by show w.heap.size + 1 + 1 ≠ w.heap.size;omega),BEL.out.setCell (p:=⟨w.heap.size,7,none⟩) (Nat.le_refl _) _,L1.out.set (by omega) _,L2.out.set (by omega) _⟩)
 clear OA OX OT BEL L1 L2 lOA zOA fOA lOX zOX
 revert HP
 generalize w2.setCell ⟨w.heap.size,7,none⟩ (.slice o2 (s.out.filter (neB x.id)).length c2)=W2
 intro HP
 obtain ⟨oa_,ox_,ot_,be_,r0_,r1_⟩:=HP.out
 have OA:=y28h oa_
 have OX:=y28h ox_
 have OT:=y28h ot_
 have BEL:=y28h be_
 have L1:=y28h r0_
 have L2:=y28h r1_
 clear oa_ ox_ ot_ be_ r0_ r1_ HP
 have lOA:=OA.out.cell
 have zOA:=OA.out.lt
 have fOA:=OA.out.free 6
 have lOX:=OX.out.cell
 have zOX:=OX.out.lt
 clear D1 D2
 go_upto_region 4 with (first | (go_at_call 38;with_reducible refine (C _ (HW.out.lf.later BEL.out (Nat.le_refl _))).out.mono ?_;rintro e w3 ⟨rfl,hb⟩;replace OA:=y28h (OA.out.later hb);replace OX:=y28h (OX.out.later hb);replace OT:=y28h (OT.out.later hb);replace BEL:=y28h (BEL.out.trans (hb.mono BEL.out.size));replace L1:=y28h (L1.out.later hb);replace L2:=y28h (L2.out.later hb);clear hb;replace lOA:=OA.out.cell;replace zOA:=OA.out.lt;replace fOA:=OA.out.free 6;replace lOX:=OX.out.cell;replace zOX:=OX.out.lt) | fail)
 clear C
 cases ht:hasT s.f x
 case false =>
   cases keep
   · go_upto_region 8 with fail
     clear lOA zOA fOA lOX zOX P1 P2
     have hfv:fv.oneCell'=true:=zas HW.out.lf
     have hkv:kv.oneCell'=true:=by obtain ⟨_,_,e⟩:=HW.out.lk.val;rw [e];rfl
     unfold Value.oneCell' at hfv hkv
     have HK:=y28h (And.intro (OT.out.sets (stA s fv (.slice o1 (s.store.filter (neB x.id)).length c1) (.slice o2 (s.out.filter (neB x.id)).length c2) kv).toList (by rfl)) (And.intro (zaa (b:=w.heap.size + 1 + 1) (by omega) (stA s fv (.slice o1 (s.store.filter (neB x.id)).length c1) (.slice o2 (s.out.filter (neB x.id)).length c2) kv).toList 0 BEL.out) (And.intro (L1.out.sets (b:=w.heap.size + 1 + 1) (by omega) (stA s fv (.slice o1 (s.store.filter (neB x.id)).length c1) (.slice o2 (s.out.filter (neB x.id)).length c2) kv).toList 0) (L2.out.sets (b:=w.heap.size + 1 + 1) (by omega) (stA s fv (.slice o1 (s.store.filter (neB x.id)).length c1) (.slice o2 (s.out.filter (neB x.id)).length c2) kv).toList 0))))
     have OAR:=y28h OA.out
     have OTR:=y28h OT.out
     go_wp2_with (first | (refine wpList_load_mid (by rfl) 40 _ (by rfl) w.heap.size 0 (by rfl) (stA s fv (.slice o1 (s.store.filter (neB x.id)).length c1) (.slice o2 (s.out.filter (neB x.id)).length c2) kv).toList _ OAR.out.range Tryz.underlying40 (by rfl) (by kernel_rfl) ?_) | (refine wpList_store_mid (by rfl) 40 _ _ (by rfl) (w.heap.size + 1 + 1) 0 (stA s fv (.slice o1 (s.store.filter (neB x.id)).length c1) (.slice o2 (s.out.filter (neB x.id)).length c2) kv) (by rfl) (by rfl) (OTR.out.there (by rfl)) (by kernel_rfl) (by simp [Value.oneCell',hfv,hkv]) ?_) | fail)
     revert HK
     generalize World.setCells _ _ _ _=WW
     intro HK
     refine zbm (by rfl) (by rfl) (l:=(stA s fv (.slice o1 (s.store.filter (neB x.id)).length c1) (.slice o2 (s.out.filter (neB x.id)).length c2) kv).toList) HK.out.1.range Tryz.underlying40 (by rfl) (by kernel_rfl) rfl ⟨(.slice o1 (s.store.filter (neB x.id)).length c1),(.slice o2 (s.out.filter (neB x.id)).length c2),rfl,⟨⟨HW.out.lf.later HK.out.2.1 (Nat.le_refl _),by show Row 8 ic _ (zam s x) _;unfold zam;rw [if_neg (by rw [ht];simp)];exact HK.out.2.2.1.row,by show Row 8 ic _ (laidOut s x _) _;unfold laidOut;rw [if_neg (by rw [ht];simp),if_neg (by simp)];exact HK.out.2.2.2.row,HW.out.lk.later HK.out.2.1 (Nat.le_refl _)⟩,by show RowF _ _ (zam s x) _;unfold zam;rw [if_neg (by rw [ht];simp)];exact HK.out.2.2.1.mono (by omega),by show RowF _ _ (laidOut s x _) _;unfold laidOut;rw [if_neg (by rw [ht];simp),if_neg (by simp)];exact HK.out.2.2.2.mono (by omega)⟩,HK.out.2.1⟩
   · replace fOA:=OA.out.free 7
     go_upto_region 8 with (first | (go_at_call 106;with_reducible refine (P2 _ _ L2.out.row).out.mono ?_;rintro e w4 ⟨v3,rfl,hr,hb⟩;obtain ⟨o3,c3,rfl⟩:=hr.len;have L3:=y28h ((OwnI.rowF hr (fun i hi=>by rcases zed hi with h | h;exact HOK2.out i (List.mem_filter.1 h).1;rw [h];exact hx)).mono (B':=w.heap.size + 1 + 1 + 1) (by have:=OT.out.lt;omega));replace OA:=y28h (OA.out.later hb);replace OX:=y28h (OX.out.later hb);replace OT:=y28h (OT.out.later hb);replace BEL:=y28h (BEL.out.trans (hb.mono BEL.out.size));replace L1:=y28h (L1.out.later hb);replace L2:=y28h (L2.out.later hb);clear hb hr;replace lOA:=OA.out.cell;replace zOA:=OA.out.lt;replace fOA:=OA.out.free 7;replace lOX:=OX.out.cell;replace zOX:=OX.out.lt) | fail)
     have HP:=y28h (show Own (w4.setCell ⟨w.heap.size,7,none⟩ (.slice o3 (putI (s.out.filter (neB x.id)) x).length c3)) w.heap.size (stA s fv (.slice o1 (s.store.filter (neB x.id)).length c1) (.slice o3 (putI (s.out.filter (neB x.id)) x).length c3) kv) 40∧Own (w4.setCell ⟨w.heap.size,7,none⟩ (.slice o3 (putI (s.out.filter (neB x.id)) x).length c3)) (w.heap.size + 1) (iA x) 58∧Own (w4.setCell ⟨w.heap.size,7,none⟩ (.slice o3 (putI (s.out.filter (neB x.id)) x).length c3)) (w.heap.size + 1 + 1) stZ.toArray 40∧Below w.heap.size w (w4.setCell ⟨w.heap.size,7,none⟩ (.slice o3 (putI (s.out.filter (neB x.id)) x).length c3))∧RowF (w4.setCell ⟨w.heap.size,7,none⟩ (.slice o3 (putI (s.out.filter (neB x.id)) x).length c3)) (w.heap.size + 1 + 1 + 1) (s.store.filter (neB x.id)) (.slice o1 (s.store.filter (neB x.id)).length c1)∧RowF (w4.setCell ⟨w.heap.size,7,none⟩ (.slice o3 (putI (s.out.filter (neB x.id)) x).length c3)) (w.heap.size + 1 + 1 + 1) (putI (s.out.filter (neB x.id)) x) (.slice o3 (putI (s.out.filter (neB x.id)) x).length c3) from ⟨by rw [← zj9 s fv (.slice o1 (s.store.filter (neB x.id)).length c1) (.slice o2 (s.out.filter (neB x.id)).length c2) kv (.slice o3 (putI (s.out.filter (neB x.id)) x).length c3)];exact OA.out.set 7 _,OX.out.setFar _ _ (by show w.heap.size + 1 ≠ w.heap.size;omega),OT.out.setFar _ _ (by show w.heap.size + 1 + 1 ≠ w.heap.size;omega),BEL.out.setCell (p:=⟨w.heap.size,7,none⟩) (Nat.le_refl _) _,L1.out.set (by omega) _,L3.out.set (by omega) _⟩)
     clear OA OX OT BEL L1 L3 lOA zOA fOA lOX zOX
     revert HP
     generalize w4.setCell ⟨w.heap.size,7,none⟩ (.slice o3 (putI (s.out.filter (neB x.id)) x).length c3)=W4
     intro HP
     obtain ⟨oa_,ox_,ot_,be_,r0_,r1_⟩:=HP.out
     have OA:=y28h oa_
     have OX:=y28h ox_
     have OT:=y28h ot_
     have BEL:=y28h be_
     have L1:=y28h r0_
     have L3:=y28h r1_
     clear oa_ ox_ ot_ be_ r0_ r1_ HP
     clear P1 P2
     have hfv:fv.oneCell'=true:=zas HW.out.lf
     have hkv:kv.oneCell'=true:=by obtain ⟨_,_,e⟩:=HW.out.lk.val;rw [e];rfl
     unfold Value.oneCell' at hfv hkv
     have HK:=y28h (And.intro (OT.out.sets (stA s fv (.slice o1 (s.store.filter (neB x.id)).length c1) (.slice o3 (putI (s.out.filter (neB x.id)) x).length c3) kv).toList (by rfl)) (And.intro (zaa (b:=w.heap.size + 1 + 1) (by omega) (stA s fv (.slice o1 (s.store.filter (neB x.id)).length c1) (.slice o3 (putI (s.out.filter (neB x.id)) x).length c3) kv).toList 0 BEL.out) (And.intro (L1.out.sets (b:=w.heap.size + 1 + 1) (by omega) (stA s fv (.slice o1 (s.store.filter (neB x.id)).length c1) (.slice o3 (putI (s.out.filter (neB x.id)) x).length c3) kv).toList 0) (L3.out.sets (b:=w.heap.size + 1 + 1) (by omega) (stA s fv (.slice o1 (s.store.filter (neB x.id)).length c1) (.slice o3 (putI (s.out.filter (neB x.id)) x).length c3) kv).toList 0))))
     have OAR:=y28h OA.out
     have OTR:=y28h OT.out
     go_wp2_with (first | (refine wpList_load_mid (by rfl) 40 _ (by rfl) w.heap.size 0 (by rfl) (stA s fv (.slice o1 (s.store.filter (neB x.id)).length c1) (.slice o3 (putI (s.out.filter (neB x.id)) x).length c3) kv).toList _ OAR.out.range Tryz.underlying40 (by rfl) (by kernel_rfl) ?_) | (refine wpList_store_mid (by rfl) 40 _ _ (by rfl) (w.heap.size + 1 + 1) 0 (stA s fv (.slice o1 (s.store.filter (neB x.id)).length c1) (.slice o3 (putI (s.out.filter (neB x.id)) x).length c3) kv) (by rfl) (by rfl) (OTR.out.there (by rfl)) (by kernel_rfl) (by simp [Value.oneCell',hfv,hkv]) ?_) | fail)
     revert HK
     generalize World.setCells _ _ _ _=WW
     intro HK
     refine zbm (by rfl) (by rfl) (l:=(stA s fv (.slice o1 (s.store.filter (neB x.id)).length c1) (.slice o3 (putI (s.out.filter (neB x.id)) x).length c3) kv).toList) HK.out.1.range Tryz.underlying40 (by rfl) (by kernel_rfl) rfl ⟨(.slice o1 (s.store.filter (neB x.id)).length c1),(.slice o3 (putI (s.out.filter (neB x.id)) x).length c3),rfl,⟨⟨HW.out.lf.later HK.out.2.1 (Nat.le_refl _),by show Row 8 ic _ (zam s x) _;unfold zam;rw [if_neg (by rw [ht];simp)];exact HK.out.2.2.1.row,by show Row 8 ic _ (laidOut s x _) _;unfold laidOut;rw [if_neg (by rw [ht];simp),if_pos rfl];exact HK.out.2.2.2.row,HW.out.lk.later HK.out.2.1 (Nat.le_refl _)⟩,by show RowF _ _ (zam s x) _;unfold zam;rw [if_neg (by rw [ht];simp)];exact HK.out.2.2.1.mono (by omega),by show RowF _ _ (laidOut s x _) _;unfold laidOut;rw [if_neg (by rw [ht];simp),if_pos rfl];exact HK.out.2.2.2.mono (by omega)⟩,HK.out.2.1⟩
 case true =>
   go_upto_region 8 with (first | (go_at_call 106;with_reducible refine (P1 _ _ L1.out.row).out.mono ?_;rintro e w4 ⟨v3,rfl,hr,hb⟩;obtain ⟨o3,c3,rfl⟩:=hr.len;have L3:=y28h ((OwnI.rowF hr (fun i hi=>by rcases zed hi with h | h;exact HOK1.out i (List.mem_filter.1 h).1;rw [h];exact hx)).mono (B':=w.heap.size + 1 + 1 + 1) (by have:=OT.out.lt;omega));replace OA:=y28h (OA.out.later hb);replace OX:=y28h (OX.out.later hb);replace OT:=y28h (OT.out.later hb);replace BEL:=y28h (BEL.out.trans (hb.mono BEL.out.size));replace L1:=y28h (L1.out.later hb);replace L2:=y28h (L2.out.later hb);clear hb hr;replace lOA:=OA.out.cell;replace zOA:=OA.out.lt;replace fOA:=OA.out.free 6;replace lOX:=OX.out.cell;replace zOX:=OX.out.lt) | fail)
   have HP:=y28h (show Own (w4.setCell ⟨w.heap.size,6,none⟩ (.slice o3 (putI (s.store.filter (neB x.id)) x).length c3)) w.heap.size (stA s fv (.slice o3 (putI (s.store.filter (neB x.id)) x).length c3) (.slice o2 (s.out.filter (neB x.id)).length c2) kv) 40∧Own (w4.setCell ⟨w.heap.size,6,none⟩ (.slice o3 (putI (s.store.filter (neB x.id)) x).length c3)) (w.heap.size + 1) (iA x) 58∧Own (w4.setCell ⟨w.heap.size,6,none⟩ (.slice o3 (putI (s.store.filter (neB x.id)) x).length c3)) (w.heap.size + 1 + 1) stZ.toArray 40∧Below w.heap.size w (w4.setCell ⟨w.heap.size,6,none⟩ (.slice o3 (putI (s.store.filter (neB x.id)) x).length c3))∧RowF (w4.setCell ⟨w.heap.size,6,none⟩ (.slice o3 (putI (s.store.filter (neB x.id)) x).length c3)) (w.heap.size + 1 + 1 + 1) (s.out.filter (neB x.id)) (.slice o2 (s.out.filter (neB x.id)).length c2)∧RowF (w4.setCell ⟨w.heap.size,6,none⟩ (.slice o3 (putI (s.store.filter (neB x.id)) x).length c3)) (w.heap.size + 1 + 1 + 1) (putI (s.store.filter (neB x.id)) x) (.slice o3 (putI (s.store.filter (neB x.id)) x).length c3) from ⟨by rw [← zet s fv (.slice o1 (s.store.filter (neB x.id)).length c1) (.slice o2 (s.out.filter (neB x.id)).length c2) kv (.slice o3 (putI (s.store.filter (neB x.id)) x).length c3)];exact OA.out.set 6 _,OX.out.setFar _ _ (by show w.heap.size + 1 ≠ w.heap.size;omega),OT.out.setFar _ _ (by show w.heap.size + 1 + 1 ≠ w.heap.size;omega),BEL.out.setCell (p:=⟨w.heap.size,6,none⟩) (Nat.le_refl _) _,L2.out.set (by omega) _,L3.out.set (by omega) _⟩)
   clear OA OX OT BEL L2 L3 lOA zOA fOA lOX zOX
   revert HP
   generalize w4.setCell ⟨w.heap.size,6,none⟩ (.slice o3 (putI (s.store.filter (neB x.id)) x).length c3)=W4
   intro HP
   obtain ⟨oa_,ox_,ot_,be_,r0_,r1_⟩:=HP.out
   have OA:=y28h oa_
   have OX:=y28h ox_
   have OT:=y28h ot_
   have BEL:=y28h be_
   have L2:=y28h r0_
   have L3:=y28h r1_
   clear oa_ ox_ ot_ be_ r0_ r1_ HP
   clear P1 P2
   have hfv:fv.oneCell'=true:=zas HW.out.lf
   have hkv:kv.oneCell'=true:=by obtain ⟨_,_,e⟩:=HW.out.lk.val;rw [e];rfl
   unfold Value.oneCell' at hfv hkv
   have HK:=y28h (And.intro (OT.out.sets (stA s fv (.slice o3 (putI (s.store.filter (neB x.id)) x).length c3) (.slice o2 (s.out.filter (neB x.id)).length c2) kv).toList (by rfl)) (And.intro (zaa (b:=w.heap.size + 1 + 1) (by omega) (stA s fv (.slice o3 (putI (s.store.filter (neB x.id)) x).length c3) (.slice o2 (s.out.filter (neB x.id)).length c2) kv).toList 0 BEL.out) (And.intro (L3.out.sets (b:=w.heap.size + 1 + 1) (by omega) (stA s fv (.slice o3 (putI (s.store.filter (neB x.id)) x).length c3) (.slice o2 (s.out.filter (neB x.id)).length c2) kv).toList 0) (L2.out.sets (b:=w.heap.size + 1 + 1) (by omega) (stA s fv (.slice o3 (putI (s.store.filter (neB x.id)) x).length c3) (.slice o2 (s.out.filter (neB x.id)).length c2) kv).toList 0))))
   have OAR:=y28h OA.out
   have OTR:=y28h OT.out
   go_wp2_with (first | (refine wpList_load_mid (by rfl) 40 _ (by rfl) w.heap.size 0 (by rfl) (stA s fv (.slice o3 (putI (s.store.filter (neB x.id)) x).length c3) (.slice o2 (s.out.filter (neB x.id)).length c2) kv).toList _ OAR.out.range Tryz.underlying40 (by rfl) (by kernel_rfl) ?_) | (refine wpList_store_mid (by rfl) 40 _ _ (by rfl) (w.heap.size + 1 + 1) 0 (stA s fv (.slice o3 (putI (s.store.filter (neB x.id)) x).length c3) (.slice o2 (s.out.filter (neB x.id)).length c2) kv) (by rfl) (by rfl) (OTR.out.there (by rfl)) (by kernel_rfl) (by simp [Value.oneCell',hfv,hkv]) ?_) | fail)
   revert HK
   generalize World.setCells _ _ _ _=WW
   intro HK
   refine zbm (by rfl) (by rfl) (l:=(stA s fv (.slice o3 (putI (s.store.filter (neB x.id)) x).length c3) (.slice o2 (s.out.filter (neB x.id)).length c2) kv).toList) HK.out.1.range Tryz.underlying40 (by rfl) (by kernel_rfl) rfl ⟨(.slice o3 (putI (s.store.filter (neB x.id)) x).length c3),(.slice o2 (s.out.filter (neB x.id)).length c2),rfl,⟨⟨HW.out.lf.later HK.out.2.1 (Nat.le_refl _),by show Row 8 ic _ (zam s x) _;unfold zam;rw [if_pos ht];exact HK.out.2.2.1.row,by show Row 8 ic _ (laidOut s x _) _;unfold laidOut;rw [if_pos ht];exact HK.out.2.2.2.row,HW.out.lk.later HK.out.2.1 (Nat.le_refl _)⟩,by show RowF _ _ (zam s x) _;unfold zam;rw [if_pos ht];exact HK.out.2.2.1.mono (by omega),by show RowF _ _ (laidOut s x _) _;unfold laidOut;rw [if_pos ht];exact HK.out.2.2.2.mono (by omega)⟩,HK.out.2.1⟩
end Go.Proofs.YtodfhabkdaiopaaGreat
namespace Go.Proofs.YtodfhabkdaiopaaGreat
set_option linter.unusedVariables false
set_option linter.unusedSimpArgs false
set_option maxRecDepth 100000
set_option maxHeartbeats 8000000
open Go.ChangeShapes Go.WideShapes Go.ChangeAt Go.RowKit Go.Deep
structure SiW (w:World) (s:St) (fv sv ov kv:Value):Prop where
 lf:LT w s.f fv
 ls:Row 9 rc w s.store sv
 lo:Row 9 rc w s.out ov
 lk:FrW w s.k.l kv
theorem SiW.later {w w':World} {s:St} {fv sv ov kv:Value} (h:SiW w s fv sv ov kv) (hb:Below w.heap.size w w'):SiW w' s fv sv ov kv :=
 ⟨h.lf.later hb (Nat.le_refl _),h.ls.later hb,h.lo.later hb,h.lk.later hb (Nat.le_refl _)⟩
theorem SiW.alloc {w:World} {s:St} {fv sv ov kv:Value} (h:SiW w s fv sv ov kv) (o:Obj):SiW (w.alloc o) s fv sv ov kv:=h.later ((Below.refl _ _).alloc (Nat.le_refl _) _)
theorem SiW.drew {w:World} {s:St} {fv sv ov kv:Value} (h:SiW w s fv sv ov kv):SiW w.drew s fv sv ov kv:=h.later (Below.refl _ _).drew
structure De where
 what:Int
 id:ByteArray
 kd:ByteArray
 num:Int
 x:Nat
 y:Nat
 f:Pr
abbrev deL (d:De) (fv:Value):List Value:=[.int .i64 d.what,.string d.id,.string d.kd,.int .i64 d.num,.float .f64 d.x,.float .f64 d.y,.int .i64 d.f.op,.string d.f.text,.int .i64 d.f.n,.float .f64 d.f.x,.float .f64 d.f.y,fv]
abbrev deV (d:De) (fv:Value):Value:=.agg #[.int .i64 d.what,.string d.id,.string d.kd,.int .i64 d.num,.float .f64 d.x,.float .f64 d.y,.int .i64 d.f.op,.string d.f.text,.int .i64 d.f.n,.float .f64 d.f.x,.float .f64 d.f.y,fv]
structure DeW (w:World) (d:De) (fv:Value):Prop where
 lf:LT w d.f fv
 id:d.id.size≤maxLen
 kd:d.kd.size≤maxLen
 what:-9223372036854775808≤d.what∧d.what≤9223372036854775807
theorem DeW.later {w w':World} {d:De} {fv:Value} (h:DeW w d fv) (hb:Below w.heap.size w w'):DeW w' d fv:=⟨h.lf.later hb (Nat.le_refl _),h.id,h.kd,h.what⟩
section
variable {H:Type} {enc:TypeId × Value→H} {w:World} {base:Nat} {spare:Nat→Bool} {held:Bool} {fuel:Nat} {cs:List Value} {x:DataW H × List MemPlace}
theorem zu4 (h:DataW.trod enc Tryz.prog w base spare held fuel 54 cs=some x):∃ (d:De) (fv:Value),cs=deL d fv∧DeW w d fv:=by
 obtain ⟨xs,n,hn,hx,hl,hxl,hf⟩:=DataW.trod_struct Tryz.underlying54 h
 have hl':cs.length=12:=hl.trans (by kernel_rfl)
 have hxl':xs.length=7:=hxl.trans (by kernel_rfl)
 have g0:DataW.trod enc Tryz.prog w base spare held n 3 ((cs.drop 0).take (Tryz.prog.cellsOf 3))=xs[0]?:=hf 0 _ rfl
 have g1:DataW.trod enc Tryz.prog w base spare held n 9 ((cs.drop 1).take (Tryz.prog.cellsOf 9))=xs[1]?:=hf 1 _ rfl
 have g2:DataW.trod enc Tryz.prog w base spare held n 9 ((cs.drop 2).take (Tryz.prog.cellsOf 9))=xs[2]?:=hf 2 _ rfl
 have g3:DataW.trod enc Tryz.prog w base spare held n 3 ((cs.drop 3).take (Tryz.prog.cellsOf 3))=xs[3]?:=hf 3 _ rfl
 have g4:DataW.trod enc Tryz.prog w base spare held n 22 ((cs.drop 4).take (Tryz.prog.cellsOf 22))=xs[4]?:=hf 4 _ rfl
 have g5:DataW.trod enc Tryz.prog w base spare held n 22 ((cs.drop 5).take (Tryz.prog.cellsOf 22))=xs[5]?:=hf 5 _ rfl
 have g6:DataW.trod enc Tryz.prog w base spare held n 25 ((cs.drop 6).take (Tryz.prog.cellsOf 25))=xs[6]?:=hf 6 _ rfl
 rw [show Tryz.prog.cellsOf 3=1 by kernel_rfl,List.getElem?_eq_getElem (by omega)] at g0 g3
 rw [show Tryz.prog.cellsOf 9=1 by kernel_rfl,List.getElem?_eq_getElem (by omega)] at g1 g2
 rw [show Tryz.prog.cellsOf 22=1 by kernel_rfl,List.getElem?_eq_getElem (by omega)] at g4 g5
 rw [show Tryz.prog.cellsOf 25=6 by kernel_rfl,List.getElem?_eq_getElem (by omega)] at g6
 match cs,hl' with
 | [c0,c1,c2,c3,c4,c5,c6,c7,c8,c9,c10,c11],_ =>
   obtain ⟨z0,k0,_,w0⟩:=DataW.trod_int Tryz.underlying3 g0
   obtain ⟨z1,k1,_,w1⟩:=DataW.trod_string Tryz.underlying9 g1
   obtain ⟨z2,k2,_,w2⟩:=DataW.trod_string Tryz.underlying9 g2
   obtain ⟨z3,k3,_⟩:=DataW.trod_int Tryz.underlying3 g3
   obtain ⟨z4,k4⟩:=zdv Tryz.underlying22 g4
   obtain ⟨z5,k5⟩:=zdv Tryz.underlying22 g5
   obtain ⟨q,kq,k6,hq⟩:=zm1 n _ _ g6
   simp [tc] at k0 k1 k2 k3 k4 k5 k6
   obtain ⟨a1,a2,a3,a4,a5,a6⟩:=k6
   subst k0 k1 k2 k3 k4 k5 a1 a2 a3 a4 a5 a6
   refine ⟨⟨z0,z1,z2,z3,z4,z5,q⟩,_,rfl,hq,w1,w2,?_⟩
   simp [Lit.wf,IntKind.min,IntKind.max,IntKind.signed,IntKind.bits] at w0
   omega
end
end Go.Proofs.YtodfhabkdaiopaaGreat
namespace Go.Proofs.YtodfhabkdaiopaaGreat
set_option linter.unusedVariables false
set_option linter.unusedSimpArgs false
set_option maxRecDepth 100000
set_option maxHeartbeats 8000000
open Go.RowKit
def za4 (n:Int):Int:=if n.tmod 4 < 0 then n.tmod 4 + 4 else n.tmod 4
theorem ziz (n:Int):0≤za4 n∧za4 n≤3:=by
 have h1:n.tmod 4 < 4:=Int.tmod_lt_of_pos n (by decide)
 have h2:-4 < n.tmod 4:=Int.lt_tmod_of_pos n (by decide)
 unfold za4
 split <;> omega
theorem zg6 (n:Int) (w:World) :
   Calls Tryz.prog 16 #[.int .i64 n,.int .i64 4] w fun e w'=>e=.returned (.int .i64 (za4 n))∧w=w':=by
 have h1:n.tmod 4 < 4:=Int.tmod_lt_of_pos n (by decide)
 have h2:-4 < n.tmod 4:=Int.lt_tmod_of_pos n (by decide)
 unfold za4
 by_cases h:n.tmod 4 < 0
 · rw [if_pos h]
   go_enter Tryz.func16,Tryz.ntmps16
   go_wp2_with fail
   go_ret
   exact ⟨rfl,rfl⟩
 · rw [if_neg h]
   go_enter Tryz.func16,Tryz.ntmps16
   go_wp2_with fail
   go_ret
   exact ⟨rfl,rfl⟩
theorem zg0 {f:Pr} (h:Pr.mayB f=true):Pr.same f f=true:=by
 unfold Pr.mayB Pr.fitsB at h
 rw [Bool.and_eq_true,Bool.and_eq_true] at h
 exact Pr.all_same f h.2.2
end Go.Proofs.YtodfhabkdaiopaaGreat
namespace Go.Proofs.YtodfhabkdaiopaaGreat
set_option linter.unusedVariables false
set_option linter.unusedSimpArgs false
set_option maxRecDepth 100000
set_option maxHeartbeats 8000000
open Go.RowKit Go.Maps
def FrOwn (w:World) (B:Nat) (l:List Fr) (v:Value):Prop:=(∀ f∈l,∀ s∈f.ids,s.size≤maxLen)∧∃ U,PK w B l U v
theorem PK.mono {w:World} {base B:Nat} {o:List Fr} {U:Nat→Value} {Lv:Value} (h:PK w base o U Lv) (hB:B≤base):PK w B o U Lv :=
 ⟨⟨h.row.1,h.row.2.imp id fun ⟨g,cap,cur,h1,h2,h3⟩=>⟨g,cap,cur,h1,Nat.le_trans hB h2,h3⟩⟩,fun i f hf=>(h.ids i f hf).mono hB,h.apart⟩
theorem FrOwn.fresh {w:World} {B:Nat} {l:List Fr} {v:Value} (h:FrOwn w B l v):FrFresh w B l v:=by
 obtain ⟨hok,U,h⟩:=h
 exact h.fresh (Nat.le_refl _) hok
theorem FrOwn.fr {w:World} {B:Nat} {l:List Fr} {v:Value} (h:FrOwn w B l v):FrW w l v:=h.fresh.fr
theorem FrOwn.mono {w:World} {B B':Nat} {l:List Fr} {v:Value} (h:FrOwn w B l v) (hB:B'≤B):FrOwn w B' l v:=by
 obtain ⟨hok,U,h⟩:=h
 exact ⟨hok,U,h.mono hB⟩
theorem FrOwn.setLow {w:World} {B:Nat} {l:List Fr} {v:Value} (h:FrOwn w B l v) {a:Addr} (ha:a.block < B) (u:Value):FrOwn (w.setCell a u) B l v:=by
 obtain ⟨hok,U,h⟩:=h
 exact ⟨hok,U,h.setLow ha u⟩
structure KP (w0:World) (base bm bp nc:Nat) (X Z:Array Value) (ids:List ByteArray) (raw:ByteArray→Nat→Int) (names:List ByteArray) (nv:Value) (vs:List (Nat→Int)) (o:List Fr) (U:Nat→Value) (Lv:Value) (wr:World):Prop where
 o1:Own wr w0.heap.size X 38
 o2:Own wr (w0.heap.size + 1) Z 38
 cnt:Cnt wr bm nc ids raw
 pcs:Pcs wr bp vs
 nm:OwnT wr w0.heap.size names nv
 nb:∀ b,nv.ownBlock=some b→b < base
 pk:PK wr base o U Lv
 bel:Below w0.heap.size w0 wr
 hb:w0.heap.size + 1 < bp
 hm:bm < base∧bm ≠ bp
 hp:bp < base
 hw:base≤wr.heap.size
section
variable {w0 wr w':World} {base bm bp nc:Nat} {X Z:Array Value} {ids:List ByteArray} {raw:ByteArray→Nat→Int} {names:List ByteArray} {nv:Value} {vs:List (Nat→Int)} {o:List Fr} {U:Nat→Value} {Lv:Value}
theorem KP.low (h:KP w0 base bm bp nc X Z ids raw names nv vs o U Lv wr) (hs:∀ b,b < base→w'.heap[b]?=wr.heap[b]?):Own w' w0.heap.size X 38∧Own w' (w0.heap.size + 1) Z 38∧Cnt w' bm nc ids raw∧Pcs w' bp vs∧OwnT w' w0.heap.size names nv:=by
 have h1:=h.hb;have h2:=h.hm;have h3:=h.hp
 refine ⟨⟨(hs _ (by omega)).trans h.o1.blk⟩,⟨(hs _ (by omega)).trans h.o2.blk⟩,?_,(hs _ h3).trans h.pcs,?_⟩
 · obtain ⟨D,⟨es,clock,q1,F,q2,q3⟩,r⟩:=h.cnt
   exact ⟨D,⟨es,clock,(hs _ h2.1).trans q1,F,q2,q3⟩,r⟩
 · refine ⟨h.nm.1,?_⟩
   rcases h.nm.2 with q | ⟨g,cap,cur,hv,hg,hh,r⟩
   · exact .inl q
   · exact .inr ⟨g,cap,cur,hv,hg,(hs g (h.nb g (by rw [hv];rfl))).trans hh,r⟩
theorem KP.later (h:KP w0 base bm bp nc X Z ids raw names nv vs o U Lv wr) (hb:Below wr.heap.size wr w'):KP w0 base bm bp nc X Z ids raw names nv vs o U Lv w' :=
 have hl:=h.low (w':=w') fun b hlt=>hb.block b (Nat.lt_of_lt_of_le hlt h.hw)
 ⟨hl.1,hl.2.1,hl.2.2.1,hl.2.2.2.1,hl.2.2.2.2,h.nb,h.pk.later hb,h.bel.trans (hb.mono h.bel.size),h.hb,h.hm,h.hp,Nat.le_trans h.hw hb.size⟩
theorem KP.alloc (h:KP w0 base bm bp nc X Z ids raw names nv vs o U Lv wr) (ob:Obj):KP w0 base bm bp nc X Z ids raw names nv vs o U Lv (wr.alloc ob):=h.later ((Below.refl _ _).alloc (Nat.le_refl _) _)
theorem KP.put (h:KP w0 base bm bp nc X Z ids raw names nv vs o U Lv wr) {vs':List (Nat→Int)} (hp:Pcs w' bp vs') (hg:wr.grownBy w' (some bp)):KP w0 base bm bp nc X Z ids raw names nv vs' o U Lv w':=by
 have h1:=h.hb;have h2:=h.hm;have h3:=h.hp;have h4:=h.hw;have h5:=h.bel.size
 have hs:∀ b,b < wr.heap.size→b ≠ bp→w'.heap[b]?=wr.heap[b]?:=fun b hb hne=>hg.block b hb (by simp [hne])
 refine ⟨⟨(hs _ (by omega) (by omega)).trans h.o1.blk⟩,⟨(hs _ (by omega) (by omega)).trans h.o2.blk⟩,?_,hp,?_,h.nb,h.pk.kept fun b hb hlt=>hs b hlt (by omega),h.bel.grown hg (by omega) (fun k hk=>by cases hk;omega),h.hb,h.hm,h.hp,Nat.le_trans h.hw hg.size⟩
 · obtain ⟨D,⟨es,clock,q1,F,q2,q3⟩,r⟩:=h.cnt
   exact ⟨D,⟨es,clock,(hs _ (by omega) h2.2).trans q1,F,q2,q3⟩,r⟩
 · refine World.ownsRow.kept h.nm hg ?_
   rcases h.nm.2 with ⟨rfl,_⟩ | ⟨g,cap,cur,rfl,_,hh,_⟩
   · exact .inl rfl
   · right
     intro e
     simp only [Value.ownBlock,Option.some.injEq] at e
     subst e
     have hq:=h.pcs
     unfold Pcs at hq
     rw [hh] at hq
     cases hq
theorem KP.grow (h:KP w0 base bm bp nc X Z ids raw names nv vs o U Lv wr) {row:Option Nat} (hg:wr.grownBy w' row) (hr:∀ k,row=some k→base≤k) {o':List Fr} {U':Nat→Value} {Lv':Value} (hk:PK w' base o' U' Lv'):KP w0 base bm bp nc X Z ids raw names nv vs o' U' Lv' w' :=
 have hl:=h.low (w':=w') fun b hlt=>hg.block b (Nat.lt_of_lt_of_le hlt h.hw) (fun e=>by have:=hr b e.symm;omega)
 ⟨hl.1,hl.2.1,hl.2.2.1,hl.2.2.2.1,hl.2.2.2.2,h.nb,hk,h.bel.grown hg h.bel.size (fun k hk=>by have:=hr k hk;have:=h.hb;have:=h.hp;omega),h.hb,h.hm,h.hp,Nat.le_trans h.hw hg.size⟩
theorem KP.addF (h:KP w0 base bm bp nc X Z ids raw names nv vs o U Lv wr) (v:Nat→Int) {g n cap:Nat} (hn:n=o.length + 1)
   (hown:w'.ownsRow base 162 9 (.slice (some ⟨g,0,none⟩) n cap) n (frCs U 0 o ++ fc ⟨[],v⟩ (.slice none 0 0))) (hgrow:wr.grownBy w' Lv.ownBlock) :
   KP w0 base bm bp nc X Z ids raw names nv vs (o ++ [⟨[],v⟩]) (updU U o.length (.slice none 0 0)) (.slice (some ⟨g,0,none⟩) n cap) w' :=
 h.grow hgrow (fun k hk=>(World.ownsRow.lt h.pk.row k hk).1) (h.pk.pushF v hn hown hgrow)
theorem KP.addT {gl nl cl:Nat} (h:KP w0 base bm bp nc X Z ids raw names nv vs o U (.slice (some ⟨gl,0,none⟩) nl cl) wr) {a:Nat} {f:Fr} (hf:o[a]?=some f) (s:ByteArray) {g n cap:Nat} (hn:n=f.ids.length + 1)
   (hown:w'.ownsRow base 9 1 (.slice (some ⟨g,0,none⟩) n cap) n (txC f.ids ++ [.string s])) (hgrow:wr.grownBy w' (U a).ownBlock) (hat:(U a).ownBlock=some g ∨ g=wr.heap.size) :
   KP w0 base bm bp nc X Z ids raw names nv vs (o.set a ⟨f.ids ++ [s],f.v⟩) (updU U a (.slice (some ⟨g,0,none⟩) n cap)) (.slice (some ⟨gl,0,none⟩) nl cl) (w'.setCell ⟨gl,a * 9,none⟩ (.slice (some ⟨g,0,none⟩) n cap)):=by
 have hu:=h.pk.ids a f hf
 have hgl:base≤gl:=(World.ownsRow.lt h.pk.row gl rfl).1
 have hr:∀ k,(U a).ownBlock=some k→base≤k:=fun k hk=>(World.ownsRow.lt hu k hk).1
 have hl:=h.low (w':=w'.setCell ⟨gl,a * 9,none⟩ (.slice (some ⟨g,0,none⟩) n cap)) fun b hlt=>(Below.heap_setCell _ _ _ _ (by show b ≠ gl;omega)).trans (hgrow.block b (Nat.lt_of_lt_of_le hlt h.hw) (fun e=>by have:=hr b e.symm;omega))
 have h1:=h.hb;have h3:=h.hp;have h4:=hgrow.size;have h5:=h.hw
 exact ⟨hl.1,hl.2.1,hl.2.2.1,hl.2.2.2.1,hl.2.2.2.2,h.nb,h.pk.pushT hf s hn hown hgrow hat,(h.bel.grown hgrow h.bel.size (fun k hk=>by have:=hr k hk;omega)).setCell (by show w0.heap.size≤gl;omega) _,h.hb,h.hm,h.hp,by simp [World.setCell];omega⟩
theorem kp9o (h:KP w0 base bm bp nc X Z ids raw names nv vs o U Lv wr) (hok:∀ f∈o,∀ s∈f.ids,s.size≤maxLen) (c0 c1 c2 c3 c4 c5 c6 c7 c8:Value):FrOwn (st9 wr (w0.heap.size + 1) c0 c1 c2 c3 c4 c5 c6 c7 c8) w0.heap.size o Lv:=by
 have hb:∀ q,((⟨w0.heap.size + 1,q,none⟩:Addr)).block < base:=fun q=>by have:=h.hb;have:=h.hp;show w0.heap.size + 1 < base;omega
 exact ⟨hok,U,((((((((((h.pk.setLow (hb 0) c0).setLow (hb 1) c1).setLow (hb 2) c2).setLow (hb 3) c3).setLow (hb 4) c4).setLow (hb 5) c5).setLow (hb 6) c6).setLow (hb 7) c7).setLow (hb 8) c8).mono (by have:=h.hb;have:=h.hp;omega))⟩
end
theorem zjg {o:List Fr} {v:Nat→Int} {a:Nat} {f:Fr} (hf:o[a]?=some f) (hn:∀ j g,j < a→o[j]?=some g→eqV g.v v=false) (he:eqV f.v v=true) :
   (∀ k B,k < a→(o.map (·.v))[k]?=some B→eqV B v=false)∧∃ B,(o.map (·.v))[a]?=some B∧eqV B v=true:=by
 refine ⟨fun k B hk hB=>?_,f.v,by simp [hf],he⟩
 rw [List.getElem?_map] at hB
 cases hg:o[k]? with
 | none=>rw [hg] at hB;cases hB
 | some g=>rw [hg] at hB;cases hB;exact hn k g hk hg
theorem zn6 (v:Nat→Int):∀ o:List Fr,(∃ (a:Nat) (f:Fr),o[a]?=some f∧(∀ (j:Nat) (g:Fr),j < a→o[j]?=some g→eqV g.v v=false)∧eqV f.v v=true) ∨ (∀ (j:Nat) (g:Fr),j < o.length→o[j]?=some g→eqV g.v v=false)
 | []=>.inr fun j g hj=>absurd hj (by simp)
 | q :: o=>by
   cases hq:eqV q.v v with
   | true=>exact .inl ⟨0,q,rfl,fun j g hj=>absurd hj (by omega),hq⟩
   | false =>
     rcases zn6 v o with ⟨a,f,h1,h2,h3⟩ | h
     · refine .inl ⟨a + 1,f,by simpa using h1,fun j g hj hg=>?_,h3⟩
       cases j with
       | zero=>simp at hg;subst hg;exact hq
       | succ j=>exact h2 j g (by omega) (by simpa using hg)
     · refine .inr fun j g hj hg=>?_
       cases j with
       | zero=>simp at hg;subst hg;exact hq
       | succ j=>exact h j g (by simpa using hj) (by simpa using hg)
theorem zh9 {o:List Fr} {v:Nat→Int} (h:∀ j g,j < o.length→o[j]?=some g→eqV g.v v=false):∀ B∈o.map (·.v),eqV B v=false:=by
 intro B hB
 obtain ⟨g,hg,rfl⟩:=List.mem_map.1 hB
 obtain ⟨j,hj⟩:=List.getElem?_of_mem hg
 exact h j g (posA hj) hj
theorem zt9 {o:List Fr} {a:Nat} {f f':Fr} (hf:o[a]?=some f) (hv:f'.v=f.v):(o.set a f').map (·.v)=o.map (·.v):=by
 rw [List.map_set,hv]
 refine List.ext_getElem? fun i=>?_
 by_cases e:a=i
 · subst e
   have hl:=posA hf
   rw [List.getElem?_set_self (by simpa using hl),List.getElem?_map,hf];rfl
 · rw [List.getElem?_set_ne e]
end Go.Proofs.YtodfhabkdaiopaaGreat
