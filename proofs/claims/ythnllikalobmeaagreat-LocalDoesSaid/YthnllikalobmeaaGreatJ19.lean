/- Joined: RowF. -/
import Derived.Test.YthnllikalobmeaaGreatJ18
namespace Go.Proofs.YthnllikalobmeaaGreat
set_option linter.unusedVariables false
set_option linter.unusedSimpArgs false
set_option maxRecDepth 100000
set_option maxHeartbeats 8000000
open Go.RowKit
theorem y19h {p:Prop} (h:p):Hid p:=Lib.hid h
def RowF (w:World) (B:Nat) (l:List Itm) (v:Value):Prop:=∃ oa cap b o,v = .slice oa l.length cap ∧ RowAt 8 ic w l oa cap b o ∧ (0 < l.length → B ≤ b)
theorem RowF.row {w:World} {B:Nat} {l:List Itm} {v:Value} (h:RowF w B l v):Row 8 ic w l v:=by
 obtain ⟨oa,cap,b,o,e,h,_⟩:=h;exact ⟨oa,cap,b,o,e,h⟩
theorem RowF.later {w w':World} {B:Nat} {l:List Itm} {v:Value} (h:RowF w B l v) (hb:Below w.heap.size w w'):RowF w' B l v:=by
 obtain ⟨oa,cap,b,o,e,h,h2⟩:=h;exact ⟨oa,cap,b,o,e,h.later hb,h2⟩
theorem RowF.sub {w w':World} {B:Nat} {l:List Itm} {v:Value} (h:RowF w B l v) (hs:w.heap.size ≤ w'.heap.size) (hc:∀ b o,B ≤ b → w'.cell? ⟨b,o,none⟩ = w.cell? ⟨b,o,none⟩):RowF w' B l v:=by
 obtain ⟨oa,cap,b,o,e,h,h2⟩:=h
 refine ⟨oa,cap,b,o,e,⟨h.len,h.max,fun h0=>⟨(h.at0 h0).1,Nat.lt_of_lt_of_le (h.at0 h0).2 hs⟩,fun k i hk j u hu=>?_,h.ok⟩,h2⟩
 rw [hc _ _ (h2 (by have:=zbs hk;omega))]
 exact h.cell k i hk j u hu
theorem RowF.set {w:World} {B:Nat} {l:List Itm} {v:Value} (h:RowF w B l v) {b q:Nat} (hb:b < B) (u:Value):RowF (w.setCell ⟨b,q,none⟩ u) B l v :=
 h.sub (by simp [World.setCell]) fun b' o hb'=>by
   apply World.cell?_setCell_other
   intro e
   have:b = b':=congrArg Addr.block e
   omega
theorem RowF.sets {B b:Nat} {l:List Itm} {v:Value} (hb:b < B) (vs:List Value):∀ {w:World} (o:Nat),RowF w B l v → RowF (w.setCells b o vs) B l v:=by
 induction vs with
 | nil=>intro w o h;exact h
 | cons u r ih=>intro w o h;exact ih (o + 1) (h.set hb u)
theorem RowF.mono {w:World} {B B':Nat} {l:List Itm} {v:Value} (h:RowF w B l v) (hb:B' ≤ B):RowF w B' l v:=by
 obtain ⟨oa,cap,b,o,e,h,h2⟩:=h;exact ⟨oa,cap,b,o,e,h,fun h0=>Nat.le_trans hb (h2 h0)⟩
theorem OwnI.rowF {w:World} {B:Nat} {l:List Itm} {v:Value} (h:OwnI w B l v) (hok:∀ i ∈ l,i.id.size ≤ maxLen ∧ i.kd.size ≤ maxLen):RowF w B l v:=by
 obtain ⟨oa,cap,g,e,h1,h2,hg⟩:=zan h
 have hr:=h.row hok
 subst e
 refine ⟨oa,cap,g,0,rfl,⟨h1,h2,fun h0=>⟨(hg h0).1,(hg h0).2.2⟩,fun k i hk j u hu=>?_,hok⟩,fun h0=>(hg h0).2.1⟩
 obtain ⟨oa',cap',b',o',e',hr'⟩:=hr
 cases e'
 have h0:0 < l.length:=by have:=zbs hk;omega
 have e1:=(hg h0).1
 rw [(hr'.at0 h0).1] at e1
 cases e1
 exact hr'.cell k i hk j u hu
def zaq (s:St) (x:Itm):List Itm:=if hasT s.f x = true then putI (s.store.filter (neB x.id)) x else s.store.filter (neB x.id)
def laidOut (s:St) (x:Itm) (keep:Bool):List Itm:=if hasT s.f x = true then s.out.filter (neB x.id) else if keep = true then putI (s.out.filter (neB x.id)) x else s.out.filter (neB x.id)
def znt (s:St) (x:Itm) (keep:Bool):St:=⟨s.r,s.f,zaq s x,laidOut s x keep,s.k,s.count,s.clock,s.epoch⟩
theorem zpz (s:St) (fv sv ov kv v:Value):(stA s fv sv ov kv).setIfInBounds 6 v = stA s fv v ov kv:=by simp
theorem zp0 (s:St) (fv sv ov kv v:Value):(stA s fv sv ov kv).setIfInBounds 7 v = stA s fv sv v kv:=by simp
theorem zhn (s:St) (fv sv ov kv:Value) (x:Itm) (keep:Bool) (w:World) (hS:StW w s fv sv ov kv) (hx:x.id.size ≤ maxLen ∧ x.kd.size ≤ maxLen) (hf:s.f.size ≤ 1000) (h1:s.store.length ≤ 1000) (h2:s.out.length ≤ 1000) :
   Calls Tryz.prog 103 #[stV s fv sv ov kv,iV x,.bool keep] w fun e w'=>∃ sv' ov',e = .returned (stV (znt s x keep) fv sv' ov' kv) ∧ (StW w' (znt s x keep) fv sv' ov' kv ∧ RowF w' w.heap.size (zaq s x) sv' ∧ RowF w' w.heap.size (laidOut s x keep) ov') ∧ Below w.heap.size w w':=by
 have OA:=y19h (((Own.new w (stA s fv sv ov kv) 43).alloc (.cells (iA x) 69)).alloc (.cells stZ.toArray 43))
 have OX:=y19h ((Own.newAt (w.alloc (.cells (stA s fv sv ov kv) 43)) (iA x) 69 (b:=w.heap.size + 1) (by simp)).alloc (.cells stZ.toArray 43))
 have OT:=y19h (Own.newAt ((w.alloc (.cells (stA s fv sv ov kv) 43)).alloc (.cells (iA x) 69)) stZ.toArray 43 (b:=w.heap.size + 1 + 1) (by simp))
 have BEL:=y19h ((((Below.refl w.heap.size w).alloc (Nat.le_refl _) (.cells (stA s fv sv ov kv) 43)).alloc (by simp) (.cells (iA x) 69)).alloc (by simp;omega) (.cells stZ.toArray 43))
 have HW:=y19h hS
 have HOK1:=y19h hS.ls.oks
 have HOK2:=y19h hS.lo.oks
 have D1:=fun w' h=>y19h (zhm s.store x.id sv w' h (by omega))
 have D2:=fun w' h=>y19h (zhm s.out x.id ov w' h (by omega))
 have P1:=fun v w' h=>y19h (zdz (s.store.filter (neB x.id)) x v w' h (Nat.le_trans (List.length_filter_le _ _) (by omega)))
 have P2:=fun v w' h=>y19h (zdz (s.out.filter (neB x.id)) x v w' h (Nat.le_trans (List.length_filter_le _ _) (by omega)))
 have C:=fun w' h=>y19h (zkp x hx.1 s.f fv w' h hf)
 clear hS
 have lOA:=OA.out.cell
 have zOA:=OA.out.lt
 have lOX:=OX.out.cell
 have zOX:=OX.out.lt
 have fOA:=OA.out.free 6
 go_enter Tryz.func103,Tryz.ntmps103
 go_upto_region 2 with (first | (go_at_call 149;with_reducible refine (D1 _ (HW.out.ls.since BEL.out)).out.mono ?_;rintro e w1 ⟨v1,rfl,hr,hb⟩;obtain ⟨o1,c1,rfl⟩:=hr.len;have L1:=y19h ((OwnI.rowF hr (fun i hi=>HOK1.out i (List.mem_filter.1 hi).1)).mono (B':=w.heap.size + 1 + 1 + 1) (by simp;try omega));replace OA:=y19h (OA.out.later hb);replace OX:=y19h (OX.out.later hb);replace OT:=y19h (OT.out.later hb);replace BEL:=y19h (BEL.out.trans (hb.mono BEL.out.size));clear hb hr;replace lOA:=OA.out.cell;replace zOA:=OA.out.lt;replace fOA:=OA.out.free 6;replace lOX:=OX.out.cell;replace zOX:=OX.out.lt) | fail)
 have HP:=y19h (show Own (w1.setCell ⟨w.heap.size,6,none⟩ (.slice o1 (s.store.filter (neB x.id)).length c1)) w.heap.size (stA s fv (.slice o1 (s.store.filter (neB x.id)).length c1) ov kv) 43 ∧ Own (w1.setCell ⟨w.heap.size,6,none⟩ (.slice o1 (s.store.filter (neB x.id)).length c1)) (w.heap.size + 1) (iA x) 69 ∧ Own (w1.setCell ⟨w.heap.size,6,none⟩ (.slice o1 (s.store.filter (neB x.id)).length c1)) (w.heap.size + 1 + 1) stZ.toArray 43 ∧ Below w.heap.size w (w1.setCell ⟨w.heap.size,6,none⟩ (.slice o1 (s.store.filter (neB x.id)).length c1)) ∧ RowF (w1.setCell ⟨w.heap.size,6,none⟩ (.slice o1 (s.store.filter (neB x.id)).length c1)) (w.heap.size + 1 + 1 + 1) (s.store.filter (neB x.id)) (.slice o1 (s.store.filter (neB x.id)).length c1) from ⟨by rw [← zpz s fv sv ov kv (.slice o1 (s.store.filter (neB x.id)).length c1)];exact OA.out.set 6 _,OX.out.setFar _ _ (by show w.heap.size + 1 ≠ w.heap.size;omega),OT.out.setFar _ _ (by show w.heap.size + 1 + 1 ≠ w.heap.size;omega),BEL.out.setCell (p:=⟨w.heap.size,6,none⟩) (Nat.le_refl _) _,L1.out.set (by omega) _⟩)
 clear OA OX OT BEL L1 lOA zOA fOA lOX zOX
 revert HP
 generalize w1.setCell ⟨w.heap.size,6,none⟩ (.slice o1 (s.store.filter (neB x.id)).length c1) = W1
 intro HP
 obtain ⟨oa_,ox_,ot_,be_,r0_⟩:=HP.out
 have OA:=y19h oa_
 have OX:=y19h ox_
 have OT:=y19h ot_
 have BEL:=y19h be_
 have L1:=y19h r0_
 clear oa_ ox_ ot_ be_ r0_ HP
 have lOA:=OA.out.cell
 have zOA:=OA.out.lt
 have fOA:=OA.out.free 7
 have lOX:=OX.out.cell
 have zOX:=OX.out.lt
 go_upto_region 3 with (first | (go_at_call 149;with_reducible refine (D2 _ (HW.out.lo.since BEL.out)).out.mono ?_;rintro e w2 ⟨v2,rfl,hr,hb⟩;obtain ⟨o2,c2,rfl⟩:=hr.len;have L2:=y19h ((OwnI.rowF hr (fun i hi=>HOK2.out i (List.mem_filter.1 hi).1)).mono (B':=w.heap.size + 1 + 1 + 1) (by have:=OT.out.lt;omega));replace OA:=y19h (OA.out.later hb);replace OX:=y19h (OX.out.later hb);replace OT:=y19h (OT.out.later hb);replace BEL:=y19h (BEL.out.trans (hb.mono BEL.out.size));replace L1:=y19h (L1.out.later hb);clear hb hr;replace lOA:=OA.out.cell;replace zOA:=OA.out.lt;replace fOA:=OA.out.free 7;replace lOX:=OX.out.cell;replace zOX:=OX.out.lt) | fail)
 have HP:=y19h (show Own (w2.setCell ⟨w.heap.size,7,none⟩ (.slice o2 (s.out.filter (neB x.id)).length c2)) w.heap.size (stA s fv (.slice o1 (s.store.filter (neB x.id)).length c1) (.slice o2 (s.out.filter (neB x.id)).length c2) kv) 43 ∧ Own (w2.setCell ⟨w.heap.size,7,none⟩ (.slice o2 (s.out.filter (neB x.id)).length c2)) (w.heap.size + 1) (iA x) 69 ∧ Own (w2.setCell ⟨w.heap.size,7,none⟩ (.slice o2 (s.out.filter (neB x.id)).length c2)) (w.heap.size + 1 + 1) stZ.toArray 43 ∧ Below w.heap.size w (w2.setCell ⟨w.heap.size,7,none⟩ (.slice o2 (s.out.filter (neB x.id)).length c2)) ∧ RowF (w2.setCell ⟨w.heap.size,7,none⟩ (.slice o2 (s.out.filter (neB x.id)).length c2)) (w.heap.size + 1 + 1 + 1) (s.store.filter (neB x.id)) (.slice o1 (s.store.filter (neB x.id)).length c1) ∧ RowF (w2.setCell ⟨w.heap.size,7,none⟩ (.slice o2 (s.out.filter (neB x.id)).length c2)) (w.heap.size + 1 + 1 + 1) (s.out.filter (neB x.id)) (.slice o2 (s.out.filter (neB x.id)).length c2) from ⟨by rw [← zp0 s fv (.slice o1 (s.store.filter (neB x.id)).length c1) ov kv (.slice o2 (s.out.filter (neB x.id)).length c2)];exact OA.out.set 7 _,OX.out.setFar _ _ (by show w.heap.size + 1 ≠ w.heap.size;omega),OT.out.setFar _ _ (by show w.heap.size + 1 + 1 ≠ w.heap.size;omega),BEL.out.setCell (p:=⟨w.heap.size,7,none⟩) (Nat.le_refl _) _,L1.out.set (by omega) _,L2.out.set (by omega) _⟩)
 clear OA OX OT BEL L1 L2 lOA zOA fOA lOX zOX
 revert HP
 generalize w2.setCell ⟨w.heap.size,7,none⟩ (.slice o2 (s.out.filter (neB x.id)).length c2) = W2
 intro HP
 obtain ⟨oa_,ox_,ot_,be_,r0_,r1_⟩:=HP.out
 have OA:=y19h oa_
 have OX:=y19h ox_
 have OT:=y19h ot_
 have BEL:=y19h be_
 have L1:=y19h r0_
 have L2:=y19h r1_
 clear oa_ ox_ ot_ be_ r0_ r1_ HP
 have lOA:=OA.out.cell
 have zOA:=OA.out.lt
 have fOA:=OA.out.free 6
 have lOX:=OX.out.cell
 have zOX:=OX.out.lt
 clear D1 D2
 go_upto_region 4 with (first | (go_at_call 92;with_reducible refine (C _ (HW.out.lf.later BEL.out (Nat.le_refl _))).out.mono ?_;rintro e w3 ⟨rfl,hb⟩;replace OA:=y19h (OA.out.later hb);replace OX:=y19h (OX.out.later hb);replace OT:=y19h (OT.out.later hb);replace BEL:=y19h (BEL.out.trans (hb.mono BEL.out.size));replace L1:=y19h (L1.out.later hb);replace L2:=y19h (L2.out.later hb);clear hb;replace lOA:=OA.out.cell;replace zOA:=OA.out.lt;replace fOA:=OA.out.free 6;replace lOX:=OX.out.cell;replace zOX:=OX.out.lt) | fail)
 clear C
 cases ht:hasT s.f x
 case false =>
   cases keep
   · go_upto_region 8 with fail
     clear lOA zOA fOA lOX zOX P1 P2
     have hfv:fv.oneCell' = true:=zar HW.out.lf
     have hkv:kv.oneCell' = true:=by obtain ⟨_,_,e⟩:=HW.out.lk.val;rw [e];rfl
     unfold Value.oneCell' at hfv hkv
     have HK:=y19h (And.intro (OT.out.sets (stA s fv (.slice o1 (s.store.filter (neB x.id)).length c1) (.slice o2 (s.out.filter (neB x.id)).length c2) kv).toList (by rfl)) (And.intro (zab (b:=w.heap.size + 1 + 1) (by omega) (stA s fv (.slice o1 (s.store.filter (neB x.id)).length c1) (.slice o2 (s.out.filter (neB x.id)).length c2) kv).toList 0 BEL.out) (And.intro (L1.out.sets (b:=w.heap.size + 1 + 1) (by omega) (stA s fv (.slice o1 (s.store.filter (neB x.id)).length c1) (.slice o2 (s.out.filter (neB x.id)).length c2) kv).toList 0) (L2.out.sets (b:=w.heap.size + 1 + 1) (by omega) (stA s fv (.slice o1 (s.store.filter (neB x.id)).length c1) (.slice o2 (s.out.filter (neB x.id)).length c2) kv).toList 0))))
     have OAR:=y19h OA.out
     have OTR:=y19h OT.out
     go_wp2_with (first | (refine wpList_load_mid (by rfl) 43 _ (by rfl) w.heap.size 0 (by rfl) (stA s fv (.slice o1 (s.store.filter (neB x.id)).length c1) (.slice o2 (s.out.filter (neB x.id)).length c2) kv).toList _ OAR.out.range Tryz.underlying43 (by rfl) (by kernel_rfl) ?_) | (refine wpList_store_mid (by rfl) 43 _ _ (by rfl) (w.heap.size + 1 + 1) 0 (stA s fv (.slice o1 (s.store.filter (neB x.id)).length c1) (.slice o2 (s.out.filter (neB x.id)).length c2) kv) (by rfl) (by rfl) (OTR.out.there (by rfl)) (by kernel_rfl) (by simp [Value.oneCell',hfv,hkv]) ?_) | fail)
     revert HK
     generalize World.setCells _ _ _ _ = WW
     intro HK
     refine zfm (by rfl) (by rfl) (l:=(stA s fv (.slice o1 (s.store.filter (neB x.id)).length c1) (.slice o2 (s.out.filter (neB x.id)).length c2) kv).toList) HK.out.1.range Tryz.underlying43 (by rfl) (by kernel_rfl) rfl ⟨(.slice o1 (s.store.filter (neB x.id)).length c1),(.slice o2 (s.out.filter (neB x.id)).length c2),rfl,⟨⟨HW.out.lf.later HK.out.2.1 (Nat.le_refl _),by show Row 8 ic _ (zaq s x) _;unfold zaq;rw [if_neg (by rw [ht];simp)];exact HK.out.2.2.1.row,by show Row 8 ic _ (laidOut s x _) _;unfold laidOut;rw [if_neg (by rw [ht];simp),if_neg (by simp)];exact HK.out.2.2.2.row,HW.out.lk.later HK.out.2.1 (Nat.le_refl _)⟩,by show RowF _ _ (zaq s x) _;unfold zaq;rw [if_neg (by rw [ht];simp)];exact HK.out.2.2.1.mono (by omega),by show RowF _ _ (laidOut s x _) _;unfold laidOut;rw [if_neg (by rw [ht];simp),if_neg (by simp)];exact HK.out.2.2.2.mono (by omega)⟩,HK.out.2.1⟩
   · replace fOA:=OA.out.free 7
     go_upto_region 8 with (first | (go_at_call 106;with_reducible refine (P2 _ _ L2.out.row).out.mono ?_;rintro e w4 ⟨v3,rfl,hr,hb⟩;obtain ⟨o3,c3,rfl⟩:=hr.len;have L3:=y19h ((OwnI.rowF hr (fun i hi=>by rcases zfb hi with h | h;exact HOK2.out i (List.mem_filter.1 h).1;rw [h];exact hx)).mono (B':=w.heap.size + 1 + 1 + 1) (by have:=OT.out.lt;omega));replace OA:=y19h (OA.out.later hb);replace OX:=y19h (OX.out.later hb);replace OT:=y19h (OT.out.later hb);replace BEL:=y19h (BEL.out.trans (hb.mono BEL.out.size));replace L1:=y19h (L1.out.later hb);replace L2:=y19h (L2.out.later hb);clear hb hr;replace lOA:=OA.out.cell;replace zOA:=OA.out.lt;replace fOA:=OA.out.free 7;replace lOX:=OX.out.cell;replace zOX:=OX.out.lt) | fail)
     have HP:=y19h (show Own (w4.setCell ⟨w.heap.size,7,none⟩ (.slice o3 (putI (s.out.filter (neB x.id)) x).length c3)) w.heap.size (stA s fv (.slice o1 (s.store.filter (neB x.id)).length c1) (.slice o3 (putI (s.out.filter (neB x.id)) x).length c3) kv) 43 ∧ Own (w4.setCell ⟨w.heap.size,7,none⟩ (.slice o3 (putI (s.out.filter (neB x.id)) x).length c3)) (w.heap.size + 1) (iA x) 69 ∧ Own (w4.setCell ⟨w.heap.size,7,none⟩ (.slice o3 (putI (s.out.filter (neB x.id)) x).length c3)) (w.heap.size + 1 + 1) stZ.toArray 43 ∧ Below w.heap.size w (w4.setCell ⟨w.heap.size,7,none⟩ (.slice o3 (putI (s.out.filter (neB x.id)) x).length c3)) ∧ RowF (w4.setCell ⟨w.heap.size,7,none⟩ (.slice o3 (putI (s.out.filter (neB x.id)) x).length c3)) (w.heap.size + 1 + 1 + 1) (s.store.filter (neB x.id)) (.slice o1 (s.store.filter (neB x.id)).length c1) ∧ RowF (w4.setCell ⟨w.heap.size,7,none⟩ (.slice o3 (putI (s.out.filter (neB x.id)) x).length c3)) (w.heap.size + 1 + 1 + 1) (putI (s.out.filter (neB x.id)) x) (.slice o3 (putI (s.out.filter (neB x.id)) x).length c3) from ⟨by rw [← zp0 s fv (.slice o1 (s.store.filter (neB x.id)).length c1) (.slice o2 (s.out.filter (neB x.id)).length c2) kv (.slice o3 (putI (s.out.filter (neB x.id)) x).length c3)];exact OA.out.set 7 _,OX.out.setFar _ _ (by show w.heap.size + 1 ≠ w.heap.size;omega),OT.out.setFar _ _ (by show w.heap.size + 1 + 1 ≠ w.heap.size;omega),BEL.out.setCell (p:=⟨w.heap.size,7,none⟩) (Nat.le_refl _) _,L1.out.set (by omega) _,L3.out.set (by omega) _⟩)
     clear OA OX OT BEL L1 L3 lOA zOA fOA lOX zOX
     revert HP
     generalize w4.setCell ⟨w.heap.size,7,none⟩ (.slice o3 (putI (s.out.filter (neB x.id)) x).length c3) = W4
     intro HP
     obtain ⟨oa_,ox_,ot_,be_,r0_,r1_⟩:=HP.out
     have OA:=y19h oa_
     have OX:=y19h ox_
     have OT:=y19h ot_
     have BEL:=y19h be_
     have L1:=y19h r0_
     have L3:=y19h r1_
     clear oa_ ox_ ot_ be_ r0_ r1_ HP
     clear P1 P2
     have hfv:fv.oneCell' = true:=zar HW.out.lf
     have hkv:kv.oneCell' = true:=by obtain ⟨_,_,e⟩:=HW.out.lk.val;rw [e];rfl
     unfold Value.oneCell' at hfv hkv
     have HK:=y19h (And.intro (OT.out.sets (stA s fv (.slice o1 (s.store.filter (neB x.id)).length c1) (.slice o3 (putI (s.out.filter (neB x.id)) x).length c3) kv).toList (by rfl)) (And.intro (zab (b:=w.heap.size + 1 + 1) (by omega) (stA s fv (.slice o1 (s.store.filter (neB x.id)).length c1) (.slice o3 (putI (s.out.filter (neB x.id)) x).length c3) kv).toList 0 BEL.out) (And.intro (L1.out.sets (b:=w.heap.size + 1 + 1) (by omega) (stA s fv (.slice o1 (s.store.filter (neB x.id)).length c1) (.slice o3 (putI (s.out.filter (neB x.id)) x).length c3) kv).toList 0) (L3.out.sets (b:=w.heap.size + 1 + 1) (by omega) (stA s fv (.slice o1 (s.store.filter (neB x.id)).length c1) (.slice o3 (putI (s.out.filter (neB x.id)) x).length c3) kv).toList 0))))
     have OAR:=y19h OA.out
     have OTR:=y19h OT.out
     go_wp2_with (first | (refine wpList_load_mid (by rfl) 43 _ (by rfl) w.heap.size 0 (by rfl) (stA s fv (.slice o1 (s.store.filter (neB x.id)).length c1) (.slice o3 (putI (s.out.filter (neB x.id)) x).length c3) kv).toList _ OAR.out.range Tryz.underlying43 (by rfl) (by kernel_rfl) ?_) | (refine wpList_store_mid (by rfl) 43 _ _ (by rfl) (w.heap.size + 1 + 1) 0 (stA s fv (.slice o1 (s.store.filter (neB x.id)).length c1) (.slice o3 (putI (s.out.filter (neB x.id)) x).length c3) kv) (by rfl) (by rfl) (OTR.out.there (by rfl)) (by kernel_rfl) (by simp [Value.oneCell',hfv,hkv]) ?_) | fail)
     revert HK
     generalize World.setCells _ _ _ _ = WW
     intro HK
     refine zfm (by rfl) (by rfl) (l:=(stA s fv (.slice o1 (s.store.filter (neB x.id)).length c1) (.slice o3 (putI (s.out.filter (neB x.id)) x).length c3) kv).toList) HK.out.1.range Tryz.underlying43 (by rfl) (by kernel_rfl) rfl ⟨(.slice o1 (s.store.filter (neB x.id)).length c1),(.slice o3 (putI (s.out.filter (neB x.id)) x).length c3),rfl,⟨⟨HW.out.lf.later HK.out.2.1 (Nat.le_refl _),by show Row 8 ic _ (zaq s x) _;unfold zaq;rw [if_neg (by rw [ht];simp)];exact HK.out.2.2.1.row,by show Row 8 ic _ (laidOut s x _) _;unfold laidOut;rw [if_neg (by rw [ht];simp),if_pos rfl];exact HK.out.2.2.2.row,HW.out.lk.later HK.out.2.1 (Nat.le_refl _)⟩,by show RowF _ _ (zaq s x) _;unfold zaq;rw [if_neg (by rw [ht];simp)];exact HK.out.2.2.1.mono (by omega),by show RowF _ _ (laidOut s x _) _;unfold laidOut;rw [if_neg (by rw [ht];simp),if_pos rfl];exact HK.out.2.2.2.mono (by omega)⟩,HK.out.2.1⟩
 case true =>
   go_upto_region 8 with (first | (go_at_call 106;with_reducible refine (P1 _ _ L1.out.row).out.mono ?_;rintro e w4 ⟨v3,rfl,hr,hb⟩;obtain ⟨o3,c3,rfl⟩:=hr.len;have L3:=y19h ((OwnI.rowF hr (fun i hi=>by rcases zfb hi with h | h;exact HOK1.out i (List.mem_filter.1 h).1;rw [h];exact hx)).mono (B':=w.heap.size + 1 + 1 + 1) (by have:=OT.out.lt;omega));replace OA:=y19h (OA.out.later hb);replace OX:=y19h (OX.out.later hb);replace OT:=y19h (OT.out.later hb);replace BEL:=y19h (BEL.out.trans (hb.mono BEL.out.size));replace L1:=y19h (L1.out.later hb);replace L2:=y19h (L2.out.later hb);clear hb hr;replace lOA:=OA.out.cell;replace zOA:=OA.out.lt;replace fOA:=OA.out.free 6;replace lOX:=OX.out.cell;replace zOX:=OX.out.lt) | fail)
   have HP:=y19h (show Own (w4.setCell ⟨w.heap.size,6,none⟩ (.slice o3 (putI (s.store.filter (neB x.id)) x).length c3)) w.heap.size (stA s fv (.slice o3 (putI (s.store.filter (neB x.id)) x).length c3) (.slice o2 (s.out.filter (neB x.id)).length c2) kv) 43 ∧ Own (w4.setCell ⟨w.heap.size,6,none⟩ (.slice o3 (putI (s.store.filter (neB x.id)) x).length c3)) (w.heap.size + 1) (iA x) 69 ∧ Own (w4.setCell ⟨w.heap.size,6,none⟩ (.slice o3 (putI (s.store.filter (neB x.id)) x).length c3)) (w.heap.size + 1 + 1) stZ.toArray 43 ∧ Below w.heap.size w (w4.setCell ⟨w.heap.size,6,none⟩ (.slice o3 (putI (s.store.filter (neB x.id)) x).length c3)) ∧ RowF (w4.setCell ⟨w.heap.size,6,none⟩ (.slice o3 (putI (s.store.filter (neB x.id)) x).length c3)) (w.heap.size + 1 + 1 + 1) (s.out.filter (neB x.id)) (.slice o2 (s.out.filter (neB x.id)).length c2) ∧ RowF (w4.setCell ⟨w.heap.size,6,none⟩ (.slice o3 (putI (s.store.filter (neB x.id)) x).length c3)) (w.heap.size + 1 + 1 + 1) (putI (s.store.filter (neB x.id)) x) (.slice o3 (putI (s.store.filter (neB x.id)) x).length c3) from ⟨by rw [← zpz s fv (.slice o1 (s.store.filter (neB x.id)).length c1) (.slice o2 (s.out.filter (neB x.id)).length c2) kv (.slice o3 (putI (s.store.filter (neB x.id)) x).length c3)];exact OA.out.set 6 _,OX.out.setFar _ _ (by show w.heap.size + 1 ≠ w.heap.size;omega),OT.out.setFar _ _ (by show w.heap.size + 1 + 1 ≠ w.heap.size;omega),BEL.out.setCell (p:=⟨w.heap.size,6,none⟩) (Nat.le_refl _) _,L2.out.set (by omega) _,L3.out.set (by omega) _⟩)
   clear OA OX OT BEL L2 L3 lOA zOA fOA lOX zOX
   revert HP
   generalize w4.setCell ⟨w.heap.size,6,none⟩ (.slice o3 (putI (s.store.filter (neB x.id)) x).length c3) = W4
   intro HP
   obtain ⟨oa_,ox_,ot_,be_,r0_,r1_⟩:=HP.out
   have OA:=y19h oa_
   have OX:=y19h ox_
   have OT:=y19h ot_
   have BEL:=y19h be_
   have L2:=y19h r0_
   have L3:=y19h r1_
   clear oa_ ox_ ot_ be_ r0_ r1_ HP
   clear P1 P2
   have hfv:fv.oneCell' = true:=zar HW.out.lf
   have hkv:kv.oneCell' = true:=by obtain ⟨_,_,e⟩:=HW.out.lk.val;rw [e];rfl
   unfold Value.oneCell' at hfv hkv
   have HK:=y19h (And.intro (OT.out.sets (stA s fv (.slice o3 (putI (s.store.filter (neB x.id)) x).length c3) (.slice o2 (s.out.filter (neB x.id)).length c2) kv).toList (by rfl)) (And.intro (zab (b:=w.heap.size + 1 + 1) (by omega) (stA s fv (.slice o3 (putI (s.store.filter (neB x.id)) x).length c3) (.slice o2 (s.out.filter (neB x.id)).length c2) kv).toList 0 BEL.out) (And.intro (L3.out.sets (b:=w.heap.size + 1 + 1) (by omega) (stA s fv (.slice o3 (putI (s.store.filter (neB x.id)) x).length c3) (.slice o2 (s.out.filter (neB x.id)).length c2) kv).toList 0) (L2.out.sets (b:=w.heap.size + 1 + 1) (by omega) (stA s fv (.slice o3 (putI (s.store.filter (neB x.id)) x).length c3) (.slice o2 (s.out.filter (neB x.id)).length c2) kv).toList 0))))
   have OAR:=y19h OA.out
   have OTR:=y19h OT.out
   go_wp2_with (first | (refine wpList_load_mid (by rfl) 43 _ (by rfl) w.heap.size 0 (by rfl) (stA s fv (.slice o3 (putI (s.store.filter (neB x.id)) x).length c3) (.slice o2 (s.out.filter (neB x.id)).length c2) kv).toList _ OAR.out.range Tryz.underlying43 (by rfl) (by kernel_rfl) ?_) | (refine wpList_store_mid (by rfl) 43 _ _ (by rfl) (w.heap.size + 1 + 1) 0 (stA s fv (.slice o3 (putI (s.store.filter (neB x.id)) x).length c3) (.slice o2 (s.out.filter (neB x.id)).length c2) kv) (by rfl) (by rfl) (OTR.out.there (by rfl)) (by kernel_rfl) (by simp [Value.oneCell',hfv,hkv]) ?_) | fail)
   revert HK
   generalize World.setCells _ _ _ _ = WW
   intro HK
   refine zfm (by rfl) (by rfl) (l:=(stA s fv (.slice o3 (putI (s.store.filter (neB x.id)) x).length c3) (.slice o2 (s.out.filter (neB x.id)).length c2) kv).toList) HK.out.1.range Tryz.underlying43 (by rfl) (by kernel_rfl) rfl ⟨(.slice o3 (putI (s.store.filter (neB x.id)) x).length c3),(.slice o2 (s.out.filter (neB x.id)).length c2),rfl,⟨⟨HW.out.lf.later HK.out.2.1 (Nat.le_refl _),by show Row 8 ic _ (zaq s x) _;unfold zaq;rw [if_pos ht];exact HK.out.2.2.1.row,by show Row 8 ic _ (laidOut s x _) _;unfold laidOut;rw [if_pos ht];exact HK.out.2.2.2.row,HW.out.lk.later HK.out.2.1 (Nat.le_refl _)⟩,by show RowF _ _ (zaq s x) _;unfold zaq;rw [if_pos ht];exact HK.out.2.2.1.mono (by omega),by show RowF _ _ (laidOut s x _) _;unfold laidOut;rw [if_pos ht];exact HK.out.2.2.2.mono (by omega)⟩,HK.out.2.1⟩
end Go.Proofs.YthnllikalobmeaaGreat
