/- Joined: LocS, LocT, LocalB, LocWant. -/
import Derived.Test.YthnllikalobmeaaGreatJ30
import Derived.Test.YthnllikalobmeaaGreatJ18
import Derived.Test.YthnllikalobmeaaGreatJ19
import Derived.Test.YthnllikalobmeaaGreatJ23
import Derived.Test.YthnllikalobmeaaGreatJ24
import Derived.Test.YthnllikalobmeaaGreatJ25
import Derived.Test.YthnllikalobmeaaGreatJ26
import Derived.Test.YthnllikalobmeaaGreatJ27
namespace Go.Proofs.YthnllikalobmeaaGreat
set_option linter.unusedVariables false
set_option linter.unusedSimpArgs false
set_option maxRecDepth 100000
set_option maxHeartbeats 8000000
open Go.RowKit
abbrev y31a := @List.getElem_toArray
abbrev y31b := @List.getElem_cons_zero
abbrev y31c := @List.getElem_cons_succ
abbrev y31d := @List.setIfInBounds_toArray
abbrev y31e := @List.set_cons_zero
abbrev y31f := @List.set_cons_succ
theorem y31h {p:Prop} (h:p):Hid p:=Lib.hid h
theorem zjh (s:St) (fv sv ov kv:Value) (w:World) (hS:SiW w s fv sv ov kv) (hf:s.f.size ≤ 60) (h1:s.store.length ≤ 1000) (h2:s.out.length ≤ 1000) :
   Calls Tryz.prog 10 #[siV s fv sv ov kv] w fun e w'=>∃ fv' sv' ov',e = .returned (stV s fv' sv' ov' kv) ∧ StW w' s fv' sv' ov' kv ∧ Below w.heap.size w w':=by
 obtain ⟨ok,ck,rfl⟩:=hS.lk.val
 have HK0:=y31h hS.lk
 have OA:=y31h ((Own.new w (siL s fv sv ov (.slice ok s.k.l.length ck)).toArray 33).alloc (.cells stZ.toArray 43))
 have OT:=y31h (Own.newAt (w.alloc (.cells (siL s fv sv ov (.slice ok s.k.l.length ck)).toArray 33)) stZ.toArray 43 (b:=w.heap.size + 1) (by simp))
 have BEL:=y31h (((Below.refl w.heap.size w).alloc (Nat.le_refl _) (.cells (siL s fv sv ov (.slice ok s.k.l.length ck)).toArray 33)).alloc (by simp) (.cells stZ.toArray 43))
 have HS:=y31h ((hS.alloc (.cells (siL s fv sv ov (.slice ok s.k.l.length ck)).toArray 33)).alloc (.cells stZ.toArray 43))
 have HO1:=y31h hS.ls.oks
 have HO2:=y31h hS.lo.oks
 have hne:=y31h (show w.heap.size ≠ w.heap.size + 1 by omega)
 clear hS
 have CP:=fun w' h=>y31h (zey s.f fv w' h hf)
 have C1:=fun w' h=>y31h (zjb s.store sv w' h (by omega))
 have C2:=fun w' h=>y31h (zjb s.out ov w' h (by omega))
 clear h1 h2
 go_enter Tryz.func10,Tryz.ntmps10
 go_wp2_with fail
 replace OA:=y31h OA.out.drew
 replace OT:=y31h OT.out.drew
 replace BEL:=y31h BEL.out.drew
 replace HS:=y31h HS.out.drew
 refine wp_region_held_drew (S:=fun w'=>∀ o,w'.cell? ⟨w.heap.size,o,none⟩ = (siL s fv sv ov (.slice ok s.k.l.length ck)).toArray[o]?) (by kernel_rfl) (by exact OA.out.cell) (fun hHeld=>?_)
 refine wpAnyH_take (i:=0) (v:=?_) rfl (by kernel_rfl) (by kernel_rfl) (by kernel_rfl) (fun _ _ _ h=>h) (Or.inl ⟨by rfl,?_⟩) (by assumption) ?_
 rotate_left 1
 · (intro w hSw;(try dsimp only at hSw);go_simp;try with_reducible rfl)
 try simp only [Act.put,y31a,y31b,y31c,y31d,y31e,y31f]
 refine wpAnyH_take (i:=1) (v:=?_) rfl (by kernel_rfl) (by kernel_rfl) (by kernel_rfl) (fun _ _ _ h=>h) (Or.inl ⟨by rfl,?_⟩) (by assumption) ?_
 rotate_left 1
 · (intro w hSw;(try dsimp only at hSw);go_simp;try with_reducible rfl)
 try simp only [Act.put,y31a,y31b,y31c,y31d,y31e,y31f]
 refine wpAnyH_take (i:=2) (v:=?_) rfl (by kernel_rfl) (by kernel_rfl) (by kernel_rfl) (fun _ _ _ h=>h) (Or.inl ⟨by rfl,?_⟩) (by assumption) ?_
 rotate_left 1
 · (intro w hSw;(try dsimp only at hSw);go_simp;try with_reducible rfl)
 try simp only [Act.put,y31a,y31b,y31c,y31d,y31e,y31f]
 refine wpAnyH_take (i:=3) (v:=?_) rfl (by kernel_rfl) (by kernel_rfl) (by kernel_rfl) (fun _ _ _ h=>h) (Or.inl ⟨by rfl,?_⟩) (by assumption) ?_
 rotate_left 1
 · (intro w hSw;(try dsimp only at hSw);go_simp;try with_reducible rfl)
 try simp only [Act.put,y31a,y31b,y31c,y31d,y31e,y31f]
 refine wpAnyH_take (i:=5) (v:=?_) rfl (by kernel_rfl) (by kernel_rfl) (by kernel_rfl) (fun _ _ _ h=>h) (Or.inl ⟨by rfl,?_⟩) (by assumption) ?_
 rotate_left 1
 · (intro w hSw;(try dsimp only at hSw);go_simp;try with_reducible rfl)
 try simp only [Act.put,y31a,y31b,y31c,y31d,y31e,y31f]
 refine wpAnyH_take (i:=6) (v:=?_) rfl (by kernel_rfl) (by kernel_rfl) (by kernel_rfl) (fun _ _ _ h=>h) (Or.inl ⟨by rfl,?_⟩) (by assumption) ?_
 rotate_left 1
 · (intro w hSw;(try dsimp only at hSw);go_simp;try with_reducible rfl)
 try simp only [Act.put,y31a,y31b,y31c,y31d,y31e,y31f]
 refine wpAnyH_take (i:=8) (v:=?_) rfl (by kernel_rfl) (by kernel_rfl) (by kernel_rfl) (fun _ _ _ h=>h) (Or.inl ⟨by rfl,?_⟩) (by assumption) ?_
 rotate_left 1
 · (intro w hSw;(try dsimp only at hSw);go_simp;try with_reducible rfl)
 try simp only [Act.put,y31a,y31b,y31c,y31d,y31e,y31f]
 refine wpAnyH_take (i:=9) (v:=?_) rfl (by kernel_rfl) (by kernel_rfl) (by kernel_rfl) (fun _ _ _ h=>h) (Or.inl ⟨by rfl,?_⟩) (by assumption) ?_
 rotate_left 1
 · (intro w hSw;(try dsimp only at hSw);go_simp;try with_reducible rfl)
 try simp only [Act.put,y31a,y31b,y31c,y31d,y31e,y31f]
 refine wpAnyH_take (i:=11) (v:=?_) rfl (by kernel_rfl) (by kernel_rfl) (by kernel_rfl) (fun _ _ _ h=>h) (Or.inl ⟨by rfl,?_⟩) (by assumption) ?_
 rotate_left 1
 · (intro w hSw;(try dsimp only at hSw);go_simp;try with_reducible rfl)
 try simp only [Act.put,y31a,y31b,y31c,y31d,y31e,y31f]
 refine wpAnyH_take (i:=12) (v:=?_) rfl (by kernel_rfl) (by kernel_rfl) (by kernel_rfl) (fun _ _ _ h=>h) (Or.inl ⟨by rfl,?_⟩) (by assumption) ?_
 rotate_left 1
 · (intro w hSw;(try dsimp only at hSw);go_simp;try with_reducible rfl)
 try simp only [Act.put,y31a,y31b,y31c,y31d,y31e,y31f]
 refine wpAnyH_take (i:=13) (v:=?_) rfl (by kernel_rfl) (by kernel_rfl) (by kernel_rfl) (fun _ _ _ h=>h) (Or.inl ⟨by rfl,?_⟩) (by assumption) ?_
 rotate_left 1
 · (intro w hSw;(try dsimp only at hSw);go_simp;try with_reducible rfl)
 try simp only [Act.put,y31a,y31b,y31c,y31d,y31e,y31f]
 refine wpAnyH_take (i:=14) (v:=?_) rfl (by kernel_rfl) (by kernel_rfl) (by kernel_rfl) (fun _ _ _ h=>h) (Or.inl ⟨by rfl,?_⟩) (by assumption) ?_
 rotate_left 1
 · (intro w hSw;(try dsimp only at hSw);go_simp;try with_reducible rfl)
 try simp only [Act.put,y31a,y31b,y31c,y31d,y31e,y31f]
 refine wpAnyH_take (i:=15) (v:=?_) rfl (by kernel_rfl) (by kernel_rfl) (by kernel_rfl) (fun _ _ _ h=>h) (Or.inl ⟨by rfl,?_⟩) (by assumption) ?_
 rotate_left 1
 · (intro w hSw;(try dsimp only at hSw);go_simp;try with_reducible rfl)
 try simp only [Act.put,y31a,y31b,y31c,y31d,y31e,y31f]
 refine wpAnyH_take (i:=16) (v:=?_) rfl (by kernel_rfl) (by kernel_rfl) (by kernel_rfl) (fun _ _ _ h=>h) (Or.inl ⟨by rfl,?_⟩) (by assumption) ?_
 rotate_left 1
 · (intro w hSw;(try dsimp only at hSw);go_simp;try with_reducible rfl)
 try simp only [Act.put,y31a,y31b,y31c,y31d,y31e,y31f]
 refine wpAnyH_take (i:=17) (v:=?_) rfl (by kernel_rfl) (by kernel_rfl) (by kernel_rfl) (fun _ _ _ h=>h) (Or.inl ⟨by rfl,?_⟩) (by assumption) ?_
 rotate_left 1
 · (intro w hSw;(try dsimp only at hSw);go_simp;try with_reducible rfl)
 try simp only [Act.put,y31a,y31b,y31c,y31d,y31e,y31f]
 refine wpAnyH_take (i:=18) (v:=?_) rfl (by kernel_rfl) (by kernel_rfl) (by kernel_rfl) (fun _ _ _ h=>h) (Or.inl ⟨by rfl,?_⟩) (by assumption) ?_
 rotate_left 1
 · (intro w hSw;(try dsimp only at hSw);go_simp;try with_reducible rfl)
 try simp only [Act.put,y31a,y31b,y31c,y31d,y31e,y31f]
 refine wpAnyH_ready (rs:=[4]) (by kernel_rfl) (by simp) ?_
 refine AllReadyH.cons rfl (fun K hK=>?_) AllReadyH.nil
 try simp only [y31a,y31b,y31c]
 (go_simp;go_at_call 14;refine (CP _ HS.out.lf).out.mono ?_;rintro e w3 ⟨v3,rfl,hl3,hb⟩;obtain ⟨o3,c3,_,_,_,rfl,_,_,_,_,_,_⟩:=za9 hl3;have z3:=y31h (show w.heap.size + 1 + 1 ≤ _ from OT.out.lt);have L3:=y31h hl3;have B3:=y31h (Below.refl w3.heap.size w3);replace OA:=y31h (OA.out.later hb);replace OT:=y31h (OT.out.later hb);replace BEL:=y31h (BEL.out.trans (hb.mono BEL.out.size));replace HS:=y31h (HS.out.later hb);clear hl3 hb)
 try go_wp2_with fail
 refine hK.out _ _ (by exact OA.out.cell) (fun hHeld=>?_)
 clear hK K
 try simp only [Act.put,y31a,y31b,y31c,y31d,y31e,y31f]
 refine wpAnyH_ready (rs:=[7]) (by kernel_rfl) (by simp) ?_
 refine AllReadyH.cons rfl (fun K hK=>?_) AllReadyH.nil
 try simp only [y31a,y31b,y31c]
 (go_simp;go_at_call 34;refine (C1 _ HS.out.ls).out.mono ?_;rintro e w4 ⟨v4,rfl,ho4,hb⟩;obtain ⟨o4,c4,rfl⟩:=ho4.len;have R4:=y31h ((OwnI.rowF ho4 HO1.out).mono (B':=w.heap.size + 1 + 1) (by have:=OT.out.lt;omega));replace B3:=y31h (B3.out.trans hb);replace OA:=y31h (OA.out.later hb);replace OT:=y31h (OT.out.later hb);replace BEL:=y31h (BEL.out.trans (hb.mono BEL.out.size));replace HS:=y31h (HS.out.later hb);clear ho4 hb)
 try go_wp2_with fail
 refine hK.out _ _ (by exact OA.out.cell) (fun hHeld=>?_)
 clear hK K
 try simp only [Act.put,y31a,y31b,y31c,y31d,y31e,y31f]
 refine wpAnyH_ready (rs:=[10]) (by kernel_rfl) (by simp) ?_
 refine AllReadyH.cons rfl (fun K hK=>?_) AllReadyH.nil
 try simp only [y31a,y31b,y31c]
 (go_simp;go_at_call 34;refine (C2 _ HS.out.lo).out.mono ?_;rintro e w5 ⟨v5,rfl,ho5,hb⟩;obtain ⟨o5,c5,rfl⟩:=ho5.len;have R5:=y31h ((OwnI.rowF ho5 HO2.out).mono (B':=w.heap.size + 1 + 1) (by have:=OT.out.lt;omega));replace R4:=y31h (R4.out.later hb);replace B3:=y31h (B3.out.trans (hb.mono B3.out.size));replace OA:=y31h (OA.out.later hb);replace OT:=y31h (OT.out.later hb);replace BEL:=y31h (BEL.out.trans (hb.mono BEL.out.size));replace HS:=y31h (HS.out.later hb);clear ho5 hb)
 try go_wp2_with fail
 refine hK.out _ _ (by exact OA.out.cell) (fun hHeld=>?_)
 clear hK K
 try simp only [Act.put,y31a,y31b,y31c,y31d,y31e,y31f]
 refine wpAnyH_take (i:=19) (v:=?_) rfl (by kernel_rfl) (by kernel_rfl) (by kernel_rfl) (fun _ _ _ h=>h) (Or.inl ⟨by rfl,?_⟩) (by assumption) ?_
 rotate_left 1
 · (intro w hSw;(try dsimp only at hSw);go_simp;try with_reducible rfl)
 try simp only [Act.put,y31a,y31b,y31c,y31d,y31e,y31f]
 refine wpAnyH_ready (rs:=[20]) (by kernel_rfl) (by simp) ?_
 refine AllReadyH.cons rfl (fun K hK=>?_) AllReadyH.nil
 try simp only [y31a,y31b,y31c]
 first | rw [if_pos (by rfl)] | skip
 have HV:=y31h (And.intro (OT.out.sets (stA s (.slice o3 s.f.kids.length c3) (.slice o4 s.store.length c4) (.slice o5 s.out.length c5) (.slice ok s.k.l.length ck)).toList (by rfl)) (And.intro (zab (b:=w.heap.size + 1) (by omega) (stA s (.slice o3 s.f.kids.length c3) (.slice o4 s.store.length c4) (.slice o5 s.out.length c5) (.slice ok s.k.l.length ck)).toList 0 BEL.out) (And.intro (R4.out.sets (b:=w.heap.size + 1) (by omega) (stA s (.slice o3 s.f.kids.length c3) (.slice o4 s.store.length c4) (.slice o5 s.out.length c5) (.slice ok s.k.l.length ck)).toList 0) (And.intro (R5.out.sets (b:=w.heap.size + 1) (by omega) (stA s (.slice o3 s.f.kids.length c3) (.slice o4 s.store.length c4) (.slice o5 s.out.length c5) (.slice ok s.k.l.length ck)).toList 0) (OA.out.setsFar (stA s (.slice o3 s.f.kids.length c3) (.slice o4 s.store.length c4) (.slice o5 s.out.length c5) (.slice ok s.k.l.length ck)).toList 0 hne.out)))))
 refine wp_store_mid 43 _ _ rfl (w.heap.size + 1) 0 (stA s (.slice o3 s.f.kids.length c3) (.slice o4 s.store.length c4) (.slice o5 s.out.length c5) (.slice ok s.k.l.length ck)) (by rfl) (by rfl) (OT.out.there (by rfl)) (by kernel_rfl) (by simp [Value.oneCell']) ?_
 refine hK.out _ _ (by exact HV.out.2.2.2.2.cell) (fun hHeld=>?_)
 clear hK K
 try simp only [Act.put,y31a,y31b,y31c,y31d,y31e,y31f]
 refine wpAnyH_done (by kernel_rfl) ?_ _
 have HV2:=y31h (fun (b o:Nat) (hb:b ≠ w.heap.size + 1)=>World.cell?_setCells_out (w.heap.size + 1) (stA s (.slice o3 s.f.kids.length c3) (.slice o4 s.store.length c4) (.slice o5 s.out.length c5) (.slice ok s.k.l.length ck)).toList 0 w5 ⟨b,o,none⟩ (fun h _=>absurd h hb))
 have HV3:=(y31h (zab (B:=w.heap.size + 1) (b:=w.heap.size + 1) (Nat.le_refl _) (stA s (.slice o3 s.f.kids.length c3) (.slice o4 s.store.length c4) (.slice o5 s.out.length c5) (.slice ok s.k.l.length ck)).toList 0 (Below.refl (w.heap.size + 1) w5))).out.size
 clear OA OT BEL HS R4 R5
 go_wp2_with fail
 revert HV HV2 HV3
 generalize World.setCells _ _ _ _ = WW
 intro HV HV2 HV3
 refine zfm (by rfl) (by rfl) (l:=(stA s (.slice o3 s.f.kids.length c3) (.slice o4 s.store.length c4) (.slice o5 s.out.length c5) (.slice ok s.k.l.length ck)).toList) HV.out.1.range Tryz.underlying43 (by rfl) (by kernel_rfl) rfl ⟨_,_,_,rfl,⟨L3.out.mono (fun b o h=>?_) (fun b h=>?_),HV.out.2.2.1.row,HV.out.2.2.2.1.row,HK0.out.later HV.out.2.1 (Nat.le_refl _)⟩,HV.out.2.1⟩
 · have z:=z3.out
   rw [HV2.out b o (by have:=h.1;omega)]
   exact B3.out.cell (p:=⟨b,o,none⟩) h.2
 · exact Nat.lt_of_lt_of_le h.2 (Nat.le_trans B3.out.size HV3)
def errI (n:Int):Value:=errV n.toNat
def newE (r:Int) (f:Pr):Int:=if zc9 r f = true then 0 else 1
def newT (r:Int) (f:Pr):St:=if zc9 r f = true then newS r f else zf7
theorem zsy (s:St) (fv sv ov kv:Value) (id kd:ByteArray) (num:Int) (px py:Nat) (w:World) (hS:StW w s fv sv ov kv) (hG:Good s) (hB:StB s) (hid:id.size ≤ maxLen) (hkd:kd.size ≤ maxLen) :
   Calls Tryz.prog 51 #[stV s fv sv ov kv,.string id,.string kd,.int .i64 num,.complex .f64 px py] w (Told numI s.f fv s sv ov kv (creS s (itS id kd num px py)) (creE s (itS id kd num px py)) w):=by
 have h1:=hB.f
 have h2:=hB.ls
 have h3:=hB.lo
 have h4:=hB.kl
 have h5:=hB.ki
 refine (zk5 s fv sv ov kv id kd num px py w hS hid hkd (by omega) (by omega) (by omega) (by rw [zcq];omega) (by omega) (by omega) hG.c hG.t).mono ?_
 rintro e w' ⟨sv',ov',kv',he,_,hx,hb⟩
 exact ⟨fv,sv',ov',kv',he,hx.n,hb⟩
theorem zs2 (s:St) (fv sv ov kv:Value) (id kd:ByteArray) (num:Int) (px py:Nat) (w:World) (hS:StW w s fv sv ov kv) (hG:Good s) (hB:StB s) (hid:id.size ≤ maxLen) (hkd:kd.size ≤ maxLen) :
   Calls Tryz.prog 52 #[stV s fv sv ov kv,.string id,.string kd,.int .i64 num,.complex .f64 px py] w (Told numI s.f fv s sv ov kv (updS s (itS id kd num px py)) (updE s (itS id kd num px py)) w):=by
 have h1:=hB.f
 have h2:=hB.ls
 have h3:=hB.lo
 have h4:=hB.kl
 have h5:=hB.ki
 refine (zk8 s fv sv ov kv id kd num px py w hS hid hkd (by omega) (by omega) (by omega) (by rw [zcq];omega) (by omega) (by omega) hG.c hG.t).mono ?_
 rintro e w' ⟨sv',ov',kv',he,_,hx,hb⟩
 exact ⟨fv,sv',ov',kv',he,hx.n,hb⟩
theorem zsz (s:St) (fv sv ov kv:Value) (id:ByteArray) (w:World) (hS:StW w s fv sv ov kv) (hG:Good s) (hB:StB s) (hid:id.size ≤ maxLen) :
   Calls Tryz.prog 53 #[stV s fv sv ov kv,.string id] w (Told numI s.f fv s sv ov kv (delS s id) (delE s id) w):=by
 have h1:=hB.f
 have h2:=hB.ls
 have h3:=hB.lo
 have h4:=hB.kl
 have h5:=hB.ki
 refine (zk6 s fv sv ov kv id w hS hid (by omega) (by omega) (by omega) (by rw [zcq];omega) (by omega) (by omega) hG.c hG.t).mono ?_
 rintro e w' ⟨sv',ov',kv',he,_,hx,hb⟩
 exact ⟨fv,sv',ov',kv',he,hx.n,hb⟩
theorem zs0 (s:St) (fv sv ov kv:Value) (f:Pr) (gv:Value) (w:World) (hS:StW w s fv sv ov kv) (hG:Good s) (hB:StB s) (hL:LP w f gv) (hf:f.size ≤ 60) :
   Calls Tryz.prog 54 #[stV s fv sv ov kv,prV f gv] w (zyb numI s.f fv f gv s sv ov kv (filS s f) (filE s f) w):=by
 have h2:=hB.ls
 have h3:=hB.lo
 refine (zk7 s fv sv ov kv f gv w hS hL (by omega) (by omega) (by omega) hG.e).mono ?_
 rintro e w' ⟨fv',sv',ov',kv',he,hx,hb⟩
 rcases hx with hx | hx
 · exact .inl ⟨fv',sv',ov',kv',he,hx,hb⟩
 · exact .inr ⟨fv',sv',ov',kv',he,hx,hb⟩
def doE (s:St) (d:De):Int:=if zcf d.what = 0 then creE s (itS d.id d.kd d.num d.x d.y) else if zcf d.what = 1 then updE s (itS d.id d.kd d.num d.x d.y) else if zcf d.what = 2 then delE s d.id else filE s d.f
def doS (s:St) (d:De):St:=if zcf d.what = 0 then creS s (itS d.id d.kd d.num d.x d.y) else if zcf d.what = 1 then updS s (itS d.id d.kd d.num d.x d.y) else if zcf d.what = 2 then delS s d.id else filS s d.f
theorem zy0 (s:St) (x:Itm):0 ≤ creE s x ∧ creE s x ≤ 10:=by unfold creE;(repeat' split) <;> decide
theorem zzx (s:St) (x:Itm):0 ≤ updE s x ∧ updE s x ≤ 10:=by unfold updE;(repeat' split) <;> decide
theorem zy1 (s:St) (id:ByteArray):0 ≤ delE s id ∧ delE s id ≤ 10:=by unfold delE;(repeat' split) <;> decide
theorem zy6 (s:St) (f:Pr):0 ≤ filE s f ∧ filE s f ≤ 10:=by unfold filE;(repeat' split) <;> decide
theorem zel {E:Int} (h:0 ≤ E ∧ E ≤ 10) (w:World):Calls Tryz.prog 17 #[errI E] w fun e w'=>e = .returned (.int .i64 E) ∧ w = w':=by
 have:=zr8 E.toNat (by omega) w
 rw [show ((E.toNat:Nat):Int) = E by omega] at this
 exact this
theorem zbc {P:Program} {o:Oper} {a:Act} {w:World} (ty:TypeId) (x:Operand) (ho:o.op = .load ty x) (b off:Nat) (hx:a.eval x = .pointer (some ⟨b,off,none⟩)) (cs:List Value) (d:TypeDesc) (hc:w.rangeAt b off cs)
   (hu:P.underlying ty = some d) (hd:d.isRow = true) (hi:(P.info? ty).map (·.size) = some cs.length):(execOp a.eval o).run P w = .ok (.value (.agg cs.toArray)) w:=by
 unfold execOp
 simp only [ho,hx,Instr.loadAt,Instr.sureAddr,Sem.run_bind,Sem.run_pure,Result.andThen_ok,run_loadVar_mid w b off ty cs d hc hu hd hi]
theorem ziw {w2 w3:World} {s U:St} {fv sv ov kv v2 fv' sv' ov' kv':Value} {f:Pr} {B:Nat} (h:StN w3 w2.heap.size s.f fv s.store sv s.out ov s.k.l kv U fv' sv' ov' kv' ∨ StN w3 w2.heap.size f v2 s.store sv s.out ov s.k.l kv U fv' sv' ov' kv') (hF:LPF w2 B f v2) (hB:B ≤ w2.heap.size) (hb3:Below w2.heap.size w2 w3):StN w3 B s.f fv s.store sv s.out ov s.k.l kv U fv' sv' ov' kv':=by
 rcases h with h | h
 · exact h.mono hB
 · obtain ⟨h1,h2,h3,h4⟩:=h.mono hB
   refine ⟨.inr ?_,h2,h3,h4⟩
   rcases h1 with ⟨e,rfl⟩ | h1
   · rw [e];exact hF.later hb3
   · exact h1
theorem zti (s:St) (fv sv ov kv:Value) (d:De) (gv:Value) (w:World) (hS:StW w s fv sv ov kv) (hD:DeW w d gv) (hG:Good s) (hB:StB s) (hsz:d.f.size ≤ 60) :
   Calls Tryz.prog 19 #[stV s fv sv ov kv,deV d gv] w fun e w'=>∃ fv' sv' ov' kv',e = .returned (.tuple #[stV (doS s d) fv' sv' ov' kv',.int .i64 (doE s d)]) ∧ StW w' (doS s d) fv' sv' ov' kv' ∧ Below w.heap.size w w':=by
 have OA:=y31h (((Own.new w (stA s fv sv ov kv) 43).alloc (.cells (deL d gv).toArray 57)).alloc (.cells stZ.toArray 43))
 have OD:=y31h ((Own.newAt (w.alloc (.cells (stA s fv sv ov kv) 43)) (deL d gv).toArray 57 (b:=w.heap.size + 1) (by simp)).alloc (.cells stZ.toArray 43))
 have OT:=y31h (Own.newAt ((w.alloc (.cells (stA s fv sv ov kv) 43)).alloc (.cells (deL d gv).toArray 57)) stZ.toArray 43 (b:=w.heap.size + 1 + 1) (by simp))
 have BEL:=y31h ((((Below.refl w.heap.size w).alloc (Nat.le_refl _) (.cells (stA s fv sv ov kv) 43)).alloc (by simp) (.cells (deL d gv).toArray 57)).alloc (by simp;omega) (.cells stZ.toArray 43))
 have CK:=fun w'=>y31h (zk1 d.what w')
 have HW:=y31h hS
 have HD:=y31h hD
 have lOD:=OD.out.cell
 have zOD:=OD.out.lt
 have hpk:=zrn d.what
 clear hS hD
 rcases (show zcf d.what = 0 ∨ zcf d.what = 1 ∨ zcf d.what = 2 ∨ zcf d.what = 3 by omega) with h0 | h1 | h2 | h3
 · have EU:doS s d = creS s (itS d.id d.kd d.num d.x d.y):=by unfold doS;simp [h0]
   have EE:doE s d = creE s (itS d.id d.kd d.num d.x d.y):=by unfold doE;simp [h0]
   rw [h0] at CK
   have HPV:=y31h HW.out.lf
   have CC:=fun w' (hb:Below w.heap.size w w')=>y31h (show Calls Tryz.prog 51 #[stV s fv sv ov kv,.string d.id,.string d.kd,.int .i64 d.num,.complex .f64 d.x d.y] w' (fun e w''=>∃ fv' sv' ov' kv',e = .returned (.tuple #[stV (doS s d) fv' sv' ov' kv',.int .i64 (doE s d)]) ∧ StN w'' w'.heap.size s.f fv s.store sv s.out ov s.k.l kv (doS s d) fv' sv' ov' kv' ∧ Below w'.heap.size w' w'') from by rw [EU,EE];exact zsy s fv sv ov kv d.id d.kd d.num d.x d.y w' (HW.out.later hb) hG hB HD.out.id HD.out.kd)
   clear EU EE hpk
   generalize doS s d = U at *
   generalize doE s d = E at *
   go_enter Tryz.func19,Tryz.ntmps19
   go_wp2_with (first | (go_at_call 24;refine (CK _).out.mono ?_;rintro e w1 ⟨rfl,rfl⟩) | (refine wpList_load_mid (by rfl) 43 _ (by rfl) w.heap.size 0 (by rfl) (stA s fv sv ov kv).toList _ OA.out.range Tryz.underlying43 (by rfl) (by kernel_rfl) ?_) | (go_at_call 51;refine (CC _ BEL.out).out.mono ?_;rintro e w3 ⟨fv',sv',ov',kv',rfl,hx,hb⟩;have hst:=hx.lies (HPV.out) (HW.out.ls) (HW.out.lo) (HW.out.lk) (BEL.out.trans (hb.mono BEL.out.size));have f1:fv'.oneCell' = true:=zar hst.lf;have f2:sv'.oneCell' = true:=(by obtain ⟨_,_,_,_,e,_⟩:=hst.ls;rw [e];rfl);have f3:ov'.oneCell' = true:=(by obtain ⟨_,_,_,_,e,_⟩:=hst.lo;rw [e];rfl);have f4:kv'.oneCell' = true:=(by obtain ⟨_,_,e⟩:=hst.lk.val;rw [e];rfl);unfold Value.oneCell' at f1 f2 f3 f4;have hB3:=y31h (show w.heap.size + 1 + 1 < _ from OT.out.lt);have HX:=y31h hx;have BE2:=y31h (BEL.out.trans (hb.mono BEL.out.size));have OT2:=y31h (OT.out.later hb);clear hst hx hb) | (refine wpList_store_mid (by rfl) 43 _ _ (by rfl) (w.heap.size + 1 + 1) 0 (stA U fv' sv' ov' kv') (by rfl) (by rfl) (OT2.out.there (by rfl)) (by kernel_rfl) (by simp [Value.oneCell',f1,f2,f3,f4]) ?_;have HK:=y31h (And.intro (OT2.out.sets (stA U fv' sv' ov' kv').toList (by rfl)) (And.intro (zab (b:=w.heap.size + 1 + 1) (by omega) (stA U fv' sv' ov' kv').toList 0 BE2.out) (HX.out.sets (b:=w.heap.size + 1 + 1) hB3.out (stA U fv' sv' ov' kv').toList)));revert HK;generalize World.setCells _ _ _ _ = WW;intro HK) | fail)
   exact zae (by rfl) (by rfl) (by rfl) HK.out.1.range Tryz.underlying43 (by rfl) (by kernel_rfl) rfl ⟨fv',sv',ov',kv',rfl,HK.out.2.2.lies HPV.out HW.out.ls HW.out.lo HW.out.lk HK.out.2.1,HK.out.2.1⟩
 · have EU:doS s d = updS s (itS d.id d.kd d.num d.x d.y):=by unfold doS;simp [h1]
   have EE:doE s d = updE s (itS d.id d.kd d.num d.x d.y):=by unfold doE;simp [h1]
   rw [h1] at CK
   have HPV:=y31h HW.out.lf
   have CC:=fun w' (hb:Below w.heap.size w w')=>y31h (show Calls Tryz.prog 52 #[stV s fv sv ov kv,.string d.id,.string d.kd,.int .i64 d.num,.complex .f64 d.x d.y] w' (fun e w''=>∃ fv' sv' ov' kv',e = .returned (.tuple #[stV (doS s d) fv' sv' ov' kv',.int .i64 (doE s d)]) ∧ StN w'' w'.heap.size s.f fv s.store sv s.out ov s.k.l kv (doS s d) fv' sv' ov' kv' ∧ Below w'.heap.size w' w'') from by rw [EU,EE];exact zs2 s fv sv ov kv d.id d.kd d.num d.x d.y w' (HW.out.later hb) hG hB HD.out.id HD.out.kd)
   clear EU EE hpk
   generalize doS s d = U at *
   generalize doE s d = E at *
   go_enter Tryz.func19,Tryz.ntmps19
   go_wp2_with (first | (go_at_call 24;refine (CK _).out.mono ?_;rintro e w1 ⟨rfl,rfl⟩) | (refine wpList_load_mid (by rfl) 43 _ (by rfl) w.heap.size 0 (by rfl) (stA s fv sv ov kv).toList _ OA.out.range Tryz.underlying43 (by rfl) (by kernel_rfl) ?_) | (go_at_call 52;refine (CC _ BEL.out).out.mono ?_;rintro e w3 ⟨fv',sv',ov',kv',rfl,hx,hb⟩;have hst:=hx.lies (HPV.out) (HW.out.ls) (HW.out.lo) (HW.out.lk) (BEL.out.trans (hb.mono BEL.out.size));have f1:fv'.oneCell' = true:=zar hst.lf;have f2:sv'.oneCell' = true:=(by obtain ⟨_,_,_,_,e,_⟩:=hst.ls;rw [e];rfl);have f3:ov'.oneCell' = true:=(by obtain ⟨_,_,_,_,e,_⟩:=hst.lo;rw [e];rfl);have f4:kv'.oneCell' = true:=(by obtain ⟨_,_,e⟩:=hst.lk.val;rw [e];rfl);unfold Value.oneCell' at f1 f2 f3 f4;have hB3:=y31h (show w.heap.size + 1 + 1 < _ from OT.out.lt);have HX:=y31h hx;have BE2:=y31h (BEL.out.trans (hb.mono BEL.out.size));have OT2:=y31h (OT.out.later hb);clear hst hx hb) | (refine wpList_store_mid (by rfl) 43 _ _ (by rfl) (w.heap.size + 1 + 1) 0 (stA U fv' sv' ov' kv') (by rfl) (by rfl) (OT2.out.there (by rfl)) (by kernel_rfl) (by simp [Value.oneCell',f1,f2,f3,f4]) ?_;have HK:=y31h (And.intro (OT2.out.sets (stA U fv' sv' ov' kv').toList (by rfl)) (And.intro (zab (b:=w.heap.size + 1 + 1) (by omega) (stA U fv' sv' ov' kv').toList 0 BE2.out) (HX.out.sets (b:=w.heap.size + 1 + 1) hB3.out (stA U fv' sv' ov' kv').toList)));revert HK;generalize World.setCells _ _ _ _ = WW;intro HK) | fail)
   exact zae (by rfl) (by rfl) (by rfl) HK.out.1.range Tryz.underlying43 (by rfl) (by kernel_rfl) rfl ⟨fv',sv',ov',kv',rfl,HK.out.2.2.lies HPV.out HW.out.ls HW.out.lo HW.out.lk HK.out.2.1,HK.out.2.1⟩
 · have EU:doS s d = delS s d.id:=by unfold doS;simp [h2]
   have EE:doE s d = delE s d.id:=by unfold doE;simp [h2]
   rw [h2] at CK
   have HPV:=y31h HW.out.lf
   have CC:=fun w' (hb:Below w.heap.size w w')=>y31h (show Calls Tryz.prog 53 #[stV s fv sv ov kv,.string d.id] w' (fun e w''=>∃ fv' sv' ov' kv',e = .returned (.tuple #[stV (doS s d) fv' sv' ov' kv',.int .i64 (doE s d)]) ∧ StN w'' w'.heap.size s.f fv s.store sv s.out ov s.k.l kv (doS s d) fv' sv' ov' kv' ∧ Below w'.heap.size w' w'') from by rw [EU,EE];exact zsz s fv sv ov kv d.id w' (HW.out.later hb) hG hB HD.out.id)
   clear EU EE hpk
   generalize doS s d = U at *
   generalize doE s d = E at *
   go_enter Tryz.func19,Tryz.ntmps19
   go_wp2_with (first | (go_at_call 24;refine (CK _).out.mono ?_;rintro e w1 ⟨rfl,rfl⟩) | (refine wpList_load_mid (by rfl) 43 _ (by rfl) w.heap.size 0 (by rfl) (stA s fv sv ov kv).toList _ OA.out.range Tryz.underlying43 (by rfl) (by kernel_rfl) ?_) | (go_at_call 53;refine (CC _ BEL.out).out.mono ?_;rintro e w3 ⟨fv',sv',ov',kv',rfl,hx,hb⟩;have hst:=hx.lies (HPV.out) (HW.out.ls) (HW.out.lo) (HW.out.lk) (BEL.out.trans (hb.mono BEL.out.size));have f1:fv'.oneCell' = true:=zar hst.lf;have f2:sv'.oneCell' = true:=(by obtain ⟨_,_,_,_,e,_⟩:=hst.ls;rw [e];rfl);have f3:ov'.oneCell' = true:=(by obtain ⟨_,_,_,_,e,_⟩:=hst.lo;rw [e];rfl);have f4:kv'.oneCell' = true:=(by obtain ⟨_,_,e⟩:=hst.lk.val;rw [e];rfl);unfold Value.oneCell' at f1 f2 f3 f4;have hB3:=y31h (show w.heap.size + 1 + 1 < _ from OT.out.lt);have HX:=y31h hx;have BE2:=y31h (BEL.out.trans (hb.mono BEL.out.size));have OT2:=y31h (OT.out.later hb);clear hst hx hb) | (refine wpList_store_mid (by rfl) 43 _ _ (by rfl) (w.heap.size + 1 + 1) 0 (stA U fv' sv' ov' kv') (by rfl) (by rfl) (OT2.out.there (by rfl)) (by kernel_rfl) (by simp [Value.oneCell',f1,f2,f3,f4]) ?_;have HK:=y31h (And.intro (OT2.out.sets (stA U fv' sv' ov' kv').toList (by rfl)) (And.intro (zab (b:=w.heap.size + 1 + 1) (by omega) (stA U fv' sv' ov' kv').toList 0 BE2.out) (HX.out.sets (b:=w.heap.size + 1 + 1) hB3.out (stA U fv' sv' ov' kv').toList)));revert HK;generalize World.setCells _ _ _ _ = WW;intro HK) | fail)
   exact zae (by rfl) (by rfl) (by rfl) HK.out.1.range Tryz.underlying43 (by rfl) (by kernel_rfl) rfl ⟨fv',sv',ov',kv',rfl,HK.out.2.2.lies HPV.out HW.out.ls HW.out.lo HW.out.lk HK.out.2.1,HK.out.2.1⟩
 · have EU:doS s d = filS s d.f:=by unfold doS;simp [h3]
   have EE:doE s d = filE s d.f:=by unfold doE;simp [h3]
   rw [h3] at CK
   have HPV:=y31h HW.out.lf
   have CP:=fun w' h=>y31h (zey d.f gv w' h hsz)
   have CC:=fun v2 w' (hb:Below w.heap.size w w') (hl:LP w' d.f v2)=>y31h (show Calls Tryz.prog 54 #[stV s fv sv ov kv,prV d.f v2] w' (fun e w''=>∃ fv' sv' ov' kv',e = .returned (.tuple #[stV (doS s d) fv' sv' ov' kv',.int .i64 (doE s d)]) ∧ (StN w'' w'.heap.size s.f fv s.store sv s.out ov s.k.l kv (doS s d) fv' sv' ov' kv' ∨ StN w'' w'.heap.size d.f v2 s.store sv s.out ov s.k.l kv (doS s d) fv' sv' ov' kv') ∧ Below w'.heap.size w' w'') from by
     rw [EU,EE]
     refine (zs0 s fv sv ov kv d.f v2 w' (HW.out.later hb) hG hB hl hsz).mono ?_
     rintro e w'' (⟨fv',sv',ov',kv',he,hx,hb⟩ | ⟨fv',sv',ov',kv',he,hx,hb⟩)
     · exact ⟨fv',sv',ov',kv',he,.inl hx,hb⟩
     · exact ⟨fv',sv',ov',kv',he,.inr hx,hb⟩)
   clear EU EE hpk
   generalize doS s d = U at *
   generalize doE s d = E at *
   go_enter Tryz.func19,Tryz.ntmps19
   go_upto_region 9 with (first | (go_at_call 24;refine (CK _).out.mono ?_;rintro e w1 ⟨rfl,rfl⟩) | fail)
   replace OA:=y31h OA.out.drew
   replace OD:=y31h OD.out.drew
   replace OT:=y31h OT.out.drew
   replace BEL:=y31h BEL.out.drew
   refine wp_region_held_drew (S:=(fun w'=>(∀ o,w'.cell? ⟨w.heap.size,o,none⟩ = (stA s fv sv ov kv)[o]?) ∧ ∀ o,w'.cell? ⟨w.heap.size + 1,o,none⟩ = (deL d gv).toArray[o]?)) (by kernel_rfl) (by exact ⟨OA.out.cell,OD.out.cell⟩) (fun hHeld=>?_)
   refine wpAnyH_take (i:=0) (v:=stV s fv sv ov kv) rfl (by kernel_rfl) (by kernel_rfl) (by kernel_rfl) (fun _ _ _ h=>h) (Or.inl ⟨by rfl,fun w5 h5=>zbc 43 _ rfl w.heap.size 0 (by rfl) (stA s fv sv ov kv).toList _ (fun j v hv=>by rw [Nat.zero_add,h5.1 j];simpa using hv) Tryz.underlying43 (by rfl) (by kernel_rfl)⟩) (by assumption) ?_
   try simp only [Act.put,y31a,y31b,y31c,y31d,y31e,y31f]
   refine wpAnyH_take (i:=1) (v:=?_) rfl (by kernel_rfl) (by kernel_rfl) (by kernel_rfl) (fun _ _ _ h=>h) (Or.inl ⟨by rfl,?_⟩) (by assumption) ?_
   rotate_left 1
   · (intro w hSw;(try dsimp only at hSw);go_simp;try with_reducible rfl)
   try simp only [Act.put,y31a,y31b,y31c,y31d,y31e,y31f]
   refine wpAnyH_take (i:=2) (v:=?_) rfl (by kernel_rfl) (by kernel_rfl) (by kernel_rfl) (fun _ _ _ h=>h) (Or.inl ⟨by rfl,?_⟩) (by assumption) ?_
   rotate_left 1
   · (intro w hSw;(try dsimp only at hSw);go_simp;try with_reducible rfl)
   try simp only [Act.put,y31a,y31b,y31c,y31d,y31e,y31f]
   refine wpAnyH_ready (rs:=[3]) (by kernel_rfl) (by simp) ?_
   refine AllReadyH.cons rfl (fun K hK=>?_) AllReadyH.nil
   try simp only [y31a,y31b,y31c]
   (go_simp;go_at_call 14;refine (CP _ (HD.out.lf.later BEL.out (Nat.le_refl _))).out.mono ?_;rintro e w2 ⟨v2,rfl,hl2,hb⟩;have hB0:=y31h OT.out.lt;have HL2:=y31h (show LPF w2 _ d.f v2 from hl2);have hB2:=y31h (show _ ≤ w2.heap.size from hb.size);replace OA:=y31h (OA.out.later hb);replace OD:=y31h (OD.out.later hb);replace OT:=y31h (OT.out.later hb);replace BEL:=y31h (BEL.out.trans (hb.mono BEL.out.size));clear hl2 hb)
   try go_wp2_with fail
   refine hK.out _ _ (by exact ⟨OA.out.cell,OD.out.cell⟩) (fun hHeld=>?_)
   clear hK K
   try simp only [Act.put,y31a,y31b,y31c,y31d,y31e,y31f]
   refine wpAnyH_ready (rs:=[4]) (by kernel_rfl) (by simp) ?_
   refine AllReadyH.cons rfl (fun K hK=>?_) AllReadyH.nil
   try simp only [y31a,y31b,y31c]
   (go_simp;go_at_call 54;refine (CC _ _ BEL.out HL2.out.lp).out.mono ?_;rintro e w3 ⟨fv',sv',ov',kv',rfl,hor,hb⟩;have hx:=ziw hor HL2.out hB2.out hb;have hst:=hx.lies HPV.out HW.out.ls HW.out.lo HW.out.lk (BEL.out.trans (hb.mono BEL.out.size));have f1:fv'.oneCell' = true:=zar hst.lf;have f2:sv'.oneCell' = true:=(by obtain ⟨_,_,_,_,e,_⟩:=hst.ls;rw [e];rfl);have f3:ov'.oneCell' = true:=(by obtain ⟨_,_,_,_,e,_⟩:=hst.lo;rw [e];rfl);have f4:kv'.oneCell' = true:=(by obtain ⟨_,_,e⟩:=hst.lk.val;rw [e];rfl);unfold Value.oneCell' at f1 f2 f3 f4;have HX:=y31h hx;replace OA:=y31h (OA.out.later hb);replace OD:=y31h (OD.out.later hb);replace OT:=y31h (OT.out.later hb);replace BEL:=y31h (BEL.out.trans (hb.mono BEL.out.size));clear hst hor hx hb)
   try go_wp2_with fail
   refine hK.out _ _ (by exact ⟨OA.out.cell,OD.out.cell⟩) (fun hHeld=>?_)
   clear hK K
   try simp only [Act.put,y31a,y31b,y31c,y31d,y31e,y31f]
   refine wpAnyH_take (i:=5) (v:=?_) rfl (by kernel_rfl) (by kernel_rfl) (by kernel_rfl) (fun _ _ _ h=>h) (Or.inl ⟨by rfl,?_⟩) (by assumption) ?_
   rotate_left 1
   · (intro w hSw;(try dsimp only at hSw);go_simp;try with_reducible rfl)
   try simp only [Act.put,y31a,y31b,y31c,y31d,y31e,y31f]
   refine wpAnyH_take (i:=6) (v:=?_) rfl (by kernel_rfl) (by kernel_rfl) (by kernel_rfl) (fun _ _ _ h=>h) (Or.inl ⟨by rfl,?_⟩) (by assumption) ?_
   rotate_left 1
   · (intro w hSw;(try dsimp only at hSw);go_simp;try with_reducible rfl)
   try simp only [Act.put,y31a,y31b,y31c,y31d,y31e,y31f]
   refine wpAnyH_ready (rs:=[7]) (by kernel_rfl) (by simp) ?_
   refine AllReadyH.cons rfl (fun K hK=>?_) AllReadyH.nil
   try simp only [y31a,y31b,y31c]
   first | rw [if_pos (by rfl)] | skip
   have HK:=y31h (And.intro (OT.out.sets (stA U fv' sv' ov' kv').toList (by rfl)) (And.intro (zab (b:=w.heap.size + 1 + 1) (by omega) (stA U fv' sv' ov' kv').toList 0 BEL.out) (And.intro (HX.out.sets (b:=w.heap.size + 1 + 1) hB0.out (stA U fv' sv' ov' kv').toList) (And.intro (OA.out.setsFar (b:=w.heap.size + 1 + 1) (stA U fv' sv' ov' kv').toList 0 (by omega)) (OD.out.setsFar (b:=w.heap.size + 1 + 1) (stA U fv' sv' ov' kv').toList 0 (by omega))))))
   refine wp_store_mid 43 _ _ rfl (w.heap.size + 1 + 1) 0 (stA U fv' sv' ov' kv') (by rfl) (by rfl) (OT.out.there (by rfl)) (by kernel_rfl) (by simp [Value.oneCell',f1,f2,f3,f4]) ?_
   refine hK.out _ _ (by exact ⟨HK.out.2.2.2.1.cell,HK.out.2.2.2.2.cell⟩) (fun hHeld=>?_)
   clear hK K hHeld
   revert HK
   generalize World.setCells _ _ _ _ = WW
   intro HK
   have hHeld:=And.intro HK.out.2.2.2.1.cell HK.out.2.2.2.2.cell
   try simp only [Act.put,y31a,y31b,y31c,y31d,y31e,y31f]
   refine wpAnyH_take (i:=8) (v:=?_) rfl (by kernel_rfl) (by kernel_rfl) (by kernel_rfl) (fun _ _ _ h=>h) (Or.inl ⟨by rfl,?_⟩) (by assumption) ?_
   rotate_left 1
   · (intro w hSw;(try dsimp only at hSw);go_simp;try with_reducible rfl)
   try simp only [Act.put,y31a,y31b,y31c,y31d,y31e,y31f]
   refine wpAnyH_done (by kernel_rfl) ?_ _
   clear hHeld
   go_wp2_with fail
   exact zae (by rfl) (by rfl) (by rfl) HK.out.1.range Tryz.underlying43 (by rfl) (by kernel_rfl) rfl ⟨fv',sv',ov',kv',rfl,HK.out.2.2.1.lies HPV.out HW.out.ls HW.out.lo HW.out.lk HK.out.2.1,HK.out.2.1⟩
end Go.Proofs.YthnllikalobmeaaGreat
