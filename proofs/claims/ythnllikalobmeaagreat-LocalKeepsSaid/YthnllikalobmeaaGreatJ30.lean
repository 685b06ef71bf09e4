/- Joined: LocS, RefSt1, KCodeA, LocM1. -/
import Derived.Test.YthnllikalobmeaaGreatJ29
import Derived.Test.YthnllikalobmeaaGreatJ07
import Derived.Test.YthnllikalobmeaaGreatJ28
import Derived.Test.YthnllikalobmeaaGreatJ23
import Derived.Test.YthnllikalobmeaaGreatJ22
import Derived.Test.YthnllikalobmeaaGreatJ18
import Derived.Test.YthnllikalobmeaaGreatJ14
import Derived.Deep.CutBlock
import Derived.Deep.DeepCutAuto
import Derived.Test.YthnllikalobmeaaGreatJ27
import Derived.Test.YthnllikalobmeaaGreatJ03
import Derived.Deep.RegionHeld3
import Derived.Lib.QuietBelow
import Derived.BigQuiet
namespace Go.Proofs.YthnllikalobmeaaGreat
set_option linter.unusedVariables false
set_option linter.unusedSimpArgs false
set_option maxRecDepth 100000
set_option maxHeartbeats 8000000
open Go.RowKit
abbrev y30a:=@List.getElem_toArray
abbrev y30b:=@List.getElem_cons_zero
abbrev y30c:=@List.getElem_cons_succ
abbrev y30d:=@List.setIfInBounds_toArray
abbrev y30e:=@List.set_cons_zero
abbrev y30f:=@List.set_cons_succ
theorem y30h {p:Prop} (h:p):Hid p:=Lib.hid h
theorem zn2 (s:St) (fv sv ov kv:Value) (w:World) (hS:SiW w s fv sv ov kv) (hf:s.f.size ≤ 60) (h1:s.store.length ≤ 1000) (h2:s.out.length ≤ 1000) :
   Calls Tryz.prog 10 #[siV s fv sv ov kv] w fun e w'=>∃ fv' sv' ov',e = .returned (stV s fv' sv' ov' kv) ∧ StW w' s fv' sv' ov' kv ∧ Below w.heap.size w w':=by
 obtain ⟨ok,ck,rfl⟩:=hS.lk.val
 have HK0:=y30h hS.lk
 have OA:=y30h ((Own.new w (siL s fv sv ov (.slice ok s.k.l.length ck)).toArray 33).alloc (.cells stZ.toArray 43))
 have OT:=y30h (Own.newAt (w.alloc (.cells (siL s fv sv ov (.slice ok s.k.l.length ck)).toArray 33)) stZ.toArray 43 (b:=w.heap.size + 1) (by simp))
 have BEL:=y30h (((Below.refl w.heap.size w).alloc (Nat.le_refl _) (.cells (siL s fv sv ov (.slice ok s.k.l.length ck)).toArray 33)).alloc (by simp) (.cells stZ.toArray 43))
 have HS:=y30h ((hS.alloc (.cells (siL s fv sv ov (.slice ok s.k.l.length ck)).toArray 33)).alloc (.cells stZ.toArray 43))
 have HO1:=y30h hS.ls.oks
 have HO2:=y30h hS.lo.oks
 have hne:=y30h (show w.heap.size ≠ w.heap.size + 1 by omega)
 clear hS
 have CP:=fun w' h=>y30h (zix s.f fv w' h hf)
 have C1:=fun w' h=>y30h (zhs s.store sv w' h (by omega))
 have C2:=fun w' h=>y30h (zhs s.out ov w' h (by omega))
 clear h1 h2
 go_enter Tryz.func10,Tryz.ntmps10
 go_wp2_with fail
 replace OA:=y30h OA.out.drew
 replace OT:=y30h OT.out.drew
 replace BEL:=y30h BEL.out.drew
 replace HS:=y30h HS.out.drew
 refine wp_region_held_drew (S:=fun w'=>∀ o,w'.cell? ⟨w.heap.size,o,none⟩ = (siL s fv sv ov (.slice ok s.k.l.length ck)).toArray[o]?) (by kernel_rfl) (by exact OA.out.cell) (fun hHeld=>?_)
 refine wpAnyH_take (i:=0) (v:=?_) rfl (by kernel_rfl) (by kernel_rfl) (by kernel_rfl) (fun _ _ _ h=>h) (Or.inl ⟨by rfl,?_⟩) (by assumption) ?_
 rotate_left 1
 · (intro w hSw;(try dsimp only at hSw);go_simp;try with_reducible rfl)
 try simp only [Act.put,y30a,y30b,y30c,y30d,y30e,y30f]
 refine wpAnyH_take (i:=1) (v:=?_) rfl (by kernel_rfl) (by kernel_rfl) (by kernel_rfl) (fun _ _ _ h=>h) (Or.inl ⟨by rfl,?_⟩) (by assumption) ?_
 rotate_left 1
 · (intro w hSw;(try dsimp only at hSw);go_simp;try with_reducible rfl)
 try simp only [Act.put,y30a,y30b,y30c,y30d,y30e,y30f]
 refine wpAnyH_take (i:=2) (v:=?_) rfl (by kernel_rfl) (by kernel_rfl) (by kernel_rfl) (fun _ _ _ h=>h) (Or.inl ⟨by rfl,?_⟩) (by assumption) ?_
 rotate_left 1
 · (intro w hSw;(try dsimp only at hSw);go_simp;try with_reducible rfl)
 try simp only [Act.put,y30a,y30b,y30c,y30d,y30e,y30f]
 refine wpAnyH_take (i:=3) (v:=?_) rfl (by kernel_rfl) (by kernel_rfl) (by kernel_rfl) (fun _ _ _ h=>h) (Or.inl ⟨by rfl,?_⟩) (by assumption) ?_
 rotate_left 1
 · (intro w hSw;(try dsimp only at hSw);go_simp;try with_reducible rfl)
 try simp only [Act.put,y30a,y30b,y30c,y30d,y30e,y30f]
 refine wpAnyH_take (i:=5) (v:=?_) rfl (by kernel_rfl) (by kernel_rfl) (by kernel_rfl) (fun _ _ _ h=>h) (Or.inl ⟨by rfl,?_⟩) (by assumption) ?_
 rotate_left 1
 · (intro w hSw;(try dsimp only at hSw);go_simp;try with_reducible rfl)
 try simp only [Act.put,y30a,y30b,y30c,y30d,y30e,y30f]
 refine wpAnyH_take (i:=6) (v:=?_) rfl (by kernel_rfl) (by kernel_rfl) (by kernel_rfl) (fun _ _ _ h=>h) (Or.inl ⟨by rfl,?_⟩) (by assumption) ?_
 rotate_left 1
 · (intro w hSw;(try dsimp only at hSw);go_simp;try with_reducible rfl)
 try simp only [Act.put,y30a,y30b,y30c,y30d,y30e,y30f]
 refine wpAnyH_take (i:=8) (v:=?_) rfl (by kernel_rfl) (by kernel_rfl) (by kernel_rfl) (fun _ _ _ h=>h) (Or.inl ⟨by rfl,?_⟩) (by assumption) ?_
 rotate_left 1
 · (intro w hSw;(try dsimp only at hSw);go_simp;try with_reducible rfl)
 try simp only [Act.put,y30a,y30b,y30c,y30d,y30e,y30f]
 refine wpAnyH_take (i:=9) (v:=?_) rfl (by kernel_rfl) (by kernel_rfl) (by kernel_rfl) (fun _ _ _ h=>h) (Or.inl ⟨by rfl,?_⟩) (by assumption) ?_
 rotate_left 1
 · (intro w hSw;(try dsimp only at hSw);go_simp;try with_reducible rfl)
 try simp only [Act.put,y30a,y30b,y30c,y30d,y30e,y30f]
 refine wpAnyH_take (i:=11) (v:=?_) rfl (by kernel_rfl) (by kernel_rfl) (by kernel_rfl) (fun _ _ _ h=>h) (Or.inl ⟨by rfl,?_⟩) (by assumption) ?_
 rotate_left 1
 · (intro w hSw;(try dsimp only at hSw);go_simp;try with_reducible rfl)
 try simp only [Act.put,y30a,y30b,y30c,y30d,y30e,y30f]
 refine wpAnyH_take (i:=12) (v:=?_) rfl (by kernel_rfl) (by kernel_rfl) (by kernel_rfl) (fun _ _ _ h=>h) (Or.inl ⟨by rfl,?_⟩) (by assumption) ?_
 rotate_left 1
 · (intro w hSw;(try dsimp only at hSw);go_simp;try with_reducible rfl)
 try simp only [Act.put,y30a,y30b,y30c,y30d,y30e,y30f]
 refine wpAnyH_take (i:=13) (v:=?_) rfl (by kernel_rfl) (by kernel_rfl) (by kernel_rfl) (fun _ _ _ h=>h) (Or.inl ⟨by rfl,?_⟩) (by assumption) ?_
 rotate_left 1
 · (intro w hSw;(try dsimp only at hSw);go_simp;try with_reducible rfl)
 try simp only [Act.put,y30a,y30b,y30c,y30d,y30e,y30f]
 refine wpAnyH_take (i:=14) (v:=?_) rfl (by kernel_rfl) (by kernel_rfl) (by kernel_rfl) (fun _ _ _ h=>h) (Or.inl ⟨by rfl,?_⟩) (by assumption) ?_
 rotate_left 1
 · (intro w hSw;(try dsimp only at hSw);go_simp;try with_reducible rfl)
 try simp only [Act.put,y30a,y30b,y30c,y30d,y30e,y30f]
 refine wpAnyH_take (i:=15) (v:=?_) rfl (by kernel_rfl) (by kernel_rfl) (by kernel_rfl) (fun _ _ _ h=>h) (Or.inl ⟨by rfl,?_⟩) (by assumption) ?_
 rotate_left 1
 · (intro w hSw;(try dsimp only at hSw);go_simp;try with_reducible rfl)
 try simp only [Act.put,y30a,y30b,y30c,y30d,y30e,y30f]
 refine wpAnyH_take (i:=16) (v:=?_) rfl (by kernel_rfl) (by kernel_rfl) (by kernel_rfl) (fun _ _ _ h=>h) (Or.inl ⟨by rfl,?_⟩) (by assumption) ?_
 rotate_left 1
 · (intro w hSw;(try dsimp only at hSw);go_simp;try with_reducible rfl)
 try simp only [Act.put,y30a,y30b,y30c,y30d,y30e,y30f]
 refine wpAnyH_take (i:=17) (v:=?_) rfl (by kernel_rfl) (by kernel_rfl) (by kernel_rfl) (fun _ _ _ h=>h) (Or.inl ⟨by rfl,?_⟩) (by assumption) ?_
 rotate_left 1
 · (intro w hSw;(try dsimp only at hSw);go_simp;try with_reducible rfl)
 try simp only [Act.put,y30a,y30b,y30c,y30d,y30e,y30f]
 refine wpAnyH_take (i:=18) (v:=?_) rfl (by kernel_rfl) (by kernel_rfl) (by kernel_rfl) (fun _ _ _ h=>h) (Or.inl ⟨by rfl,?_⟩) (by assumption) ?_
 rotate_left 1
 · (intro w hSw;(try dsimp only at hSw);go_simp;try with_reducible rfl)
 try simp only [Act.put,y30a,y30b,y30c,y30d,y30e,y30f]
 refine wpAnyH_ready (rs:=[4]) (by kernel_rfl) (by simp) ?_
 refine AllReadyH.cons rfl (fun K hK=>?_) AllReadyH.nil
 try simp only [y30a,y30b,y30c]
 (go_simp;go_at_call 14;refine (CP _ HS.out.lf).out.mono ?_;rintro e w3 ⟨v3,rfl,hl3,hb⟩;obtain ⟨o3,c3,_,_,_,rfl,_,_,_,_,_,_⟩:=zbh hl3;have z3:=y30h (show w.heap.size + 1 + 1 ≤ _ from OT.out.lt);have L3:=y30h hl3;have B3:=y30h (Below.refl w3.heap.size w3);replace OA:=y30h (OA.out.later hb);replace OT:=y30h (OT.out.later hb);replace BEL:=y30h (BEL.out.trans (hb.mono BEL.out.size));replace HS:=y30h (HS.out.later hb);clear hl3 hb)
 try go_wp2_with fail
 refine hK.out _ _ (by exact OA.out.cell) (fun hHeld=>?_)
 clear hK K
 try simp only [Act.put,y30a,y30b,y30c,y30d,y30e,y30f]
 refine wpAnyH_ready (rs:=[7]) (by kernel_rfl) (by simp) ?_
 refine AllReadyH.cons rfl (fun K hK=>?_) AllReadyH.nil
 try simp only [y30a,y30b,y30c]
 (go_simp;go_at_call 34;refine (C1 _ HS.out.ls).out.mono ?_;rintro e w4 ⟨v4,rfl,ho4,hb⟩;obtain ⟨o4,c4,rfl⟩:=ho4.len;have R4:=y30h ((OwnI.rowF ho4 HO1.out).mono (B':=w.heap.size + 1 + 1) (by have:=OT.out.lt;omega));replace B3:=y30h (B3.out.trans hb);replace OA:=y30h (OA.out.later hb);replace OT:=y30h (OT.out.later hb);replace BEL:=y30h (BEL.out.trans (hb.mono BEL.out.size));replace HS:=y30h (HS.out.later hb);clear ho4 hb)
 try go_wp2_with fail
 refine hK.out _ _ (by exact OA.out.cell) (fun hHeld=>?_)
 clear hK K
 try simp only [Act.put,y30a,y30b,y30c,y30d,y30e,y30f]
 refine wpAnyH_ready (rs:=[10]) (by kernel_rfl) (by simp) ?_
 refine AllReadyH.cons rfl (fun K hK=>?_) AllReadyH.nil
 try simp only [y30a,y30b,y30c]
 (go_simp;go_at_call 34;refine (C2 _ HS.out.lo).out.mono ?_;rintro e w5 ⟨v5,rfl,ho5,hb⟩;obtain ⟨o5,c5,rfl⟩:=ho5.len;have R5:=y30h ((OwnI.rowF ho5 HO2.out).mono (B':=w.heap.size + 1 + 1) (by have:=OT.out.lt;omega));replace R4:=y30h (R4.out.later hb);replace B3:=y30h (B3.out.trans (hb.mono B3.out.size));replace OA:=y30h (OA.out.later hb);replace OT:=y30h (OT.out.later hb);replace BEL:=y30h (BEL.out.trans (hb.mono BEL.out.size));replace HS:=y30h (HS.out.later hb);clear ho5 hb)
 try go_wp2_with fail
 refine hK.out _ _ (by exact OA.out.cell) (fun hHeld=>?_)
 clear hK K
 try simp only [Act.put,y30a,y30b,y30c,y30d,y30e,y30f]
 refine wpAnyH_take (i:=19) (v:=?_) rfl (by kernel_rfl) (by kernel_rfl) (by kernel_rfl) (fun _ _ _ h=>h) (Or.inl ⟨by rfl,?_⟩) (by assumption) ?_
 rotate_left 1
 · (intro w hSw;(try dsimp only at hSw);go_simp;try with_reducible rfl)
 try simp only [Act.put,y30a,y30b,y30c,y30d,y30e,y30f]
 refine wpAnyH_ready (rs:=[20]) (by kernel_rfl) (by simp) ?_
 refine AllReadyH.cons rfl (fun K hK=>?_) AllReadyH.nil
 try simp only [y30a,y30b,y30c]
 first | rw [if_pos (by rfl)] | skip
 have HV:=y30h (And.intro (OT.out.sets (stA s (.slice o3 s.f.kids.length c3) (.slice o4 s.store.length c4) (.slice o5 s.out.length c5) (.slice ok s.k.l.length ck)).toList (by rfl)) (And.intro (zab (b:=w.heap.size + 1) (by omega) (stA s (.slice o3 s.f.kids.length c3) (.slice o4 s.store.length c4) (.slice o5 s.out.length c5) (.slice ok s.k.l.length ck)).toList 0 BEL.out) (And.intro (R4.out.sets (b:=w.heap.size + 1) (by omega) (stA s (.slice o3 s.f.kids.length c3) (.slice o4 s.store.length c4) (.slice o5 s.out.length c5) (.slice ok s.k.l.length ck)).toList 0) (And.intro (R5.out.sets (b:=w.heap.size + 1) (by omega) (stA s (.slice o3 s.f.kids.length c3) (.slice o4 s.store.length c4) (.slice o5 s.out.length c5) (.slice ok s.k.l.length ck)).toList 0) (OA.out.setsFar (stA s (.slice o3 s.f.kids.length c3) (.slice o4 s.store.length c4) (.slice o5 s.out.length c5) (.slice ok s.k.l.length ck)).toList 0 hne.out)))))
 refine wp_store_mid 43 _ _ rfl (w.heap.size + 1) 0 (stA s (.slice o3 s.f.kids.length c3) (.slice o4 s.store.length c4) (.slice o5 s.out.length c5) (.slice ok s.k.l.length ck)) (by rfl) (by rfl) (OT.out.there (by rfl)) (by kernel_rfl) (by simp [Value.oneCell']) ?_
 refine hK.out _ _ (by exact HV.out.2.2.2.2.cell) (fun hHeld=>?_)
 clear hK K
 try simp only [Act.put,y30a,y30b,y30c,y30d,y30e,y30f]
 refine wpAnyH_done (by kernel_rfl) ?_ _
 have HV2:=y30h (fun (b o:Nat) (hb:b ≠ w.heap.size + 1)=>World.cell?_setCells_out (w.heap.size + 1) (stA s (.slice o3 s.f.kids.length c3) (.slice o4 s.store.length c4) (.slice o5 s.out.length c5) (.slice ok s.k.l.length ck)).toList 0 w5 ⟨b,o,none⟩ (fun h _=>absurd h hb))
 have HV3:=(y30h (zab (B:=w.heap.size + 1) (b:=w.heap.size + 1) (Nat.le_refl _) (stA s (.slice o3 s.f.kids.length c3) (.slice o4 s.store.length c4) (.slice o5 s.out.length c5) (.slice ok s.k.l.length ck)).toList 0 (Below.refl (w.heap.size + 1) w5))).out.size
 clear OA OT BEL HS R4 R5
 go_wp2_with fail
 revert HV HV2 HV3
 generalize World.setCells _ _ _ _ = WW
 intro HV HV2 HV3
 refine zmz (by rfl) (by rfl) (l:=(stA s (.slice o3 s.f.kids.length c3) (.slice o4 s.store.length c4) (.slice o5 s.out.length c5) (.slice ok s.k.l.length ck)).toList) HV.out.1.range Tryz.underlying43 (by rfl) (by kernel_rfl) rfl ⟨_,_,_,rfl,⟨L3.out.mono (fun b o h=>?_) (fun b h=>?_),HV.out.2.2.1.row,HV.out.2.2.2.1.row,HK0.out.later HV.out.2.1 (Nat.le_refl _)⟩,HV.out.2.1⟩
 · have z:=z3.out
   rw [HV2.out b o (by have:=h.1;omega)]
   exact B3.out.cell (p:=⟨b,o,none⟩) h.2
 · exact Nat.lt_of_lt_of_le h.2 (Nat.le_trans B3.out.size HV3)
theorem zfn (a b:St) (af asv ao ak bf bs bo bk:Value) (w:World) (hA:StW w a af asv ao ak) (hB:StW w b bf bs bo bk) :
   Calls Tryz.prog 16 #[stV a af asv ao ak,stV b bf bs bo bk] w fun e w'=>e = .returned (.bool (zdw a b)) ∧ Below w.heap.size w w':=by
 have OA:=y30h ((Has.new w (stA a af asv ao ak) 43).alloc (.cells (stA b bf bs bo bk) 43))
 have OB:=y30h ((Own.newAt (w.alloc (.cells (stA a af asv ao ak) 43)) (stA b bf bs bo bk) 43 (b:=w.heap.size + 1) (by simp)).has)
 have BEL:=y30h (((Below.refl w.heap.size w).alloc (Nat.le_refl _) (.cells (stA a af asv ao ak) 43)).alloc (by simp) (.cells (stA b bf bs bo bk) 43))
 have LA:=y30h ((hA.alloc (.cells (stA a af asv ao ak) 43)).alloc (.cells (stA b bf bs bo bk) 43))
 have LB:=y30h ((hB.alloc (.cells (stA a af asv ao ak) 43)).alloc (.cells (stA b bf bs bo bk) 43))
 clear hA hB
 obtain ⟨r,f,l,o,k,count,clock,epoch⟩:=a
 obtain ⟨r',f',l',o',k',count',clock',epoch'⟩:=b
 have SF:=fun w' h h'=>y30h (zht f f' af bf w' h h')
 have SS:=fun w' h h'=>y30h (zcr zbx zdx l l' asv bs w' h h')
 have SO:=fun w' h h'=>y30h (zcr zbx zdx o o' ao bo w' h h')
 have SK:=fun w' h h'=>y30h (znc k k' ak bk w' h h')
 have HE:=y30h (show zdw ⟨r,f,l,o,k,count,clock,epoch⟩ ⟨r',f',l',o',k',count',clock',epoch'⟩ = ((decide (r = r') && (decide (count = count') && (decide (clock = clock') && decide (epoch = epoch')))) && (Pr.same f f' && (zbe zbx l l' && (zbe zbx o o' && zbk k k')))) from rfl)
 generalize zdw ⟨r,f,l,o,k,count,clock,epoch⟩ ⟨r',f',l',o',k',count',clock',epoch'⟩ = res at *
 try simp only at OA OB LA LB BEL
 have lOA:=OA.out.cell
 have zOA:=OA.out.lt
 have lOB:=OB.out.cell
 have zOB:=OB.out.lt
 by_cases h1:r = r'
 case neg =>
   have E:=y30h (show res = false by rw [HE.out];simp [h1])
   have e1:(r == r') = false:=by simpa using h1
   have e2:(r != r') = true:=by simpa using h1
   clear HE h1
   go_enter Tryz.func16,Tryz.ntmps16
   go_wp2_with fail
   go_ret
   exact ⟨zaa E.out.symm,BEL.out⟩
 subst h1
 by_cases h2:count = count'
 case neg =>
   have E:=y30h (show res = false by rw [HE.out];simp [h2])
   have e1:(count == count') = false:=by simpa using h2
   have e2:(count != count') = true:=by simpa using h2
   clear HE h2
   go_enter Tryz.func16,Tryz.ntmps16
   go_wp2_with fail
   go_ret
   exact ⟨zaa E.out.symm,BEL.out⟩
 subst h2
 by_cases h3:clock = clock'
 case neg =>
   have E:=y30h (show res = false by rw [HE.out];simp [h3])
   have e1:(clock == clock') = false:=by simpa using h3
   have e2:(clock != clock') = true:=by simpa using h3
   clear HE h3
   go_enter Tryz.func16,Tryz.ntmps16
   go_wp2_with fail
   go_ret
   exact ⟨zaa E.out.symm,BEL.out⟩
 subst h3
 by_cases h4:epoch = epoch'
 case neg =>
   have E:=y30h (show res = false by rw [HE.out];simp [h4])
   have e1:(epoch == epoch') = false:=by simpa using h4
   have e2:(epoch != epoch') = true:=by simpa using h4
   clear HE h4
   go_enter Tryz.func16,Tryz.ntmps16
   go_wp2_with fail
   go_ret
   exact ⟨zaa E.out.symm,BEL.out⟩
 subst h4
 have E:=y30h (show res = (Pr.same f f' && (zbe zbx l l' && (zbe zbx o o' && zbk k k'))) by rw [HE.out];simp)
 clear HE
 generalize Pr.same f f' = x1 at *
 generalize zbe zbx l l' = x2 at *
 generalize zbe zbx o o' = x3 at *
 generalize zbk k k' = x4 at *
 go_enter Tryz.func16,Tryz.ntmps16
 go_upto_region 4 with (first | (go_at_call 29;with_reducible refine (SF _ LA.out.lf LB.out.lf).out.mono ?_;rintro e w1 ⟨rfl,hb⟩;replace OA:=y30h (OA.out.below hb OA.out.lt);replace OB:=y30h (OB.out.below hb OB.out.lt);replace LA:=y30h (LA.out.later hb);replace LB:=y30h (LB.out.later hb);replace BEL:=y30h (BEL.out.trans (hb.mono BEL.out.size));clear hb;replace lOA:=OA.out.cell;replace zOA:=OA.out.lt;replace lOB:=OB.out.cell;replace zOB:=OB.out.lt) | fail)
 clear SF
 go_upto_region 5 with (first | (go_at_call 26;with_reducible refine (SS _ LA.out.ls LB.out.ls).out.mono ?_;rintro e w2 ⟨rfl,hb⟩;replace OA:=y30h (OA.out.below hb OA.out.lt);replace OB:=y30h (OB.out.below hb OB.out.lt);replace LA:=y30h (LA.out.later hb);replace LB:=y30h (LB.out.later hb);replace BEL:=y30h (BEL.out.trans (hb.mono BEL.out.size));clear hb;replace lOA:=OA.out.cell;replace zOA:=OA.out.lt;replace lOB:=OB.out.cell;replace zOB:=OB.out.lt) | fail)
 clear SS
 go_upto_region 6 with (first | (go_at_call 26;with_reducible refine (SO _ LA.out.lo LB.out.lo).out.mono ?_;rintro e w3 ⟨rfl,hb⟩;replace OA:=y30h (OA.out.below hb OA.out.lt);replace OB:=y30h (OB.out.below hb OB.out.lt);replace LA:=y30h (LA.out.later hb);replace LB:=y30h (LB.out.later hb);replace BEL:=y30h (BEL.out.trans (hb.mono BEL.out.size));clear hb;replace lOA:=OA.out.cell;replace zOA:=OA.out.lt;replace lOB:=OB.out.cell;replace zOB:=OB.out.lt) | fail)
 clear SO
 cases x1
 case false =>
   go_wp2_with (first | (go_at_call 47;with_reducible refine (SK _ LA.out.lk LB.out.lk).out.mono ?_;rintro e w4 ⟨rfl,hb⟩;replace OA:=y30h (OA.out.below hb OA.out.lt);replace OB:=y30h (OB.out.below hb OB.out.lt);replace LA:=y30h (LA.out.later hb);replace LB:=y30h (LB.out.later hb);replace BEL:=y30h (BEL.out.trans (hb.mono BEL.out.size));clear hb;replace lOA:=OA.out.cell;replace zOA:=OA.out.lt;replace lOB:=OB.out.cell;replace zOB:=OB.out.lt) | fail)
   go_ret
   exact ⟨zaa (by rw [E.out];simp),BEL.out⟩
 cases x2
 case false =>
   go_wp2_with (first | (go_at_call 47;with_reducible refine (SK _ LA.out.lk LB.out.lk).out.mono ?_;rintro e w4 ⟨rfl,hb⟩;replace OA:=y30h (OA.out.below hb OA.out.lt);replace OB:=y30h (OB.out.below hb OB.out.lt);replace LA:=y30h (LA.out.later hb);replace LB:=y30h (LB.out.later hb);replace BEL:=y30h (BEL.out.trans (hb.mono BEL.out.size));clear hb;replace lOA:=OA.out.cell;replace zOA:=OA.out.lt;replace lOB:=OB.out.cell;replace zOB:=OB.out.lt) | fail)
   go_ret
   exact ⟨zaa (by rw [E.out];simp),BEL.out⟩
 cases x3
 case false =>
   go_wp2_with (first | (go_at_call 47;with_reducible refine (SK _ LA.out.lk LB.out.lk).out.mono ?_;rintro e w4 ⟨rfl,hb⟩;replace OA:=y30h (OA.out.below hb OA.out.lt);replace OB:=y30h (OB.out.below hb OB.out.lt);replace LA:=y30h (LA.out.later hb);replace LB:=y30h (LB.out.later hb);replace BEL:=y30h (BEL.out.trans (hb.mono BEL.out.size));clear hb;replace lOA:=OA.out.cell;replace zOA:=OA.out.lt;replace lOB:=OB.out.cell;replace zOB:=OB.out.lt) | fail)
   go_ret
   exact ⟨zaa (by rw [E.out];simp),BEL.out⟩
 go_wp2_with (first | (go_at_call 47;with_reducible refine (SK _ LA.out.lk LB.out.lk).out.mono ?_;rintro e w4 ⟨rfl,hb⟩;replace OA:=y30h (OA.out.below hb OA.out.lt);replace OB:=y30h (OB.out.below hb OB.out.lt);replace LA:=y30h (LA.out.later hb);replace LB:=y30h (LB.out.later hb);replace BEL:=y30h (BEL.out.trans (hb.mono BEL.out.size));clear hb;replace lOA:=OA.out.cell;replace zOA:=OA.out.lt;replace lOB:=OB.out.cell;replace zOB:=OB.out.lt) | fail)
 go_ret
 exact ⟨zaa (by rw [E.out];simp),BEL.out⟩
theorem zgb (K:Kn) (id:ByteArray) (r c:Int) (v:Value) (w:World) (hR:FrW w K.l v) (hid:id.size ≤ maxLen) :
   Calls Tryz.prog 28 #[knV K.star v,.string id,.agg #[.int .i64 r,.int .i64 c]] w fun e w'=>e = .returned (.bool (hasK K id r c)) ∧ Below w.heap.size w w':=by
 obtain ⟨ov,cv,rfl⟩:=hR.val
 unfold hasK
 obtain ⟨A,l⟩:=K
 simp only at *
 have G1:=y30h (((Own.new w (knA A (.slice ov l.length cv)) 31).alloc (.cells #[.string id] 9)).alloc (.cells #[.int .i64 r,.int .i64 c] 67))
 have G2:=y30h ((Own.newAt (w.alloc (.cells (knA A (.slice ov l.length cv)) 31)) #[.string id] 9 (b:=w.heap.size + 1) (by simp)).alloc (.cells #[.int .i64 r,.int .i64 c] 67))
 have G3:=y30h (Own.newAt ((w.alloc (.cells (knA A (.slice ov l.length cv)) 31)).alloc (.cells #[.string id] 9)) #[.int .i64 r,.int .i64 c] 67 (b:=w.heap.size + 1 + 1) (by simp))
 have HB0:=y30h ((((Below.refl w.heap.size w).alloc (Nat.le_refl _) (.cells (knA A (.slice ov l.length cv)) 31)).alloc (by simp) (.cells #[.string id] 9)).alloc (by simp;omega) (.cells #[.int .i64 r,.int .i64 c] 67))
 have HR:=y30h (hR.later HB0.out (Nat.le_refl _))
 have CH:=fun w'=>y30h (zg6 A r c w')
 clear hR
 cases hh:hasV A r c
 · have CD:=fun w' h=>y30h (ziu (zev id r c) l (.slice ov l.length cv) (w.heap.size + 1 + 1) (w.heap.size + 1) w' h)
   rw [Bool.false_or]
   go_enter Tryz.func28,Tryz.ntmps28
   go_upto_region 1 with fail
   generalize ((w.alloc (.cells (knA A (.slice ov l.length cv)) 31)).alloc (.cells #[.string id] 9)).alloc (.cells #[.int .i64 r,.int .i64 c] 67) = W at *
   have l1:=G1.out.cell
   have z1:=G1.out.lt
   have l3:=G3.out.cell
   have z3:=G3.out.lt
   have CH1:=CH W
   rw [hh] at CH1
   go_wp2_with (first
     | (go_at_call 60;refine CH1.out.mono ?_;rintro e w3 ⟨rfl,hb3⟩;have l13:=(G1.out.later hb3).cell;have z13:=(G1.out.later hb3).lt;have D:=y30h ((CD w3 (HR.out.later hb3 (Nat.le_refl _))).out fun w' hb' k f u hf hu=>zph f u r c id _ _ w' hu ((G3.out.later hb3).later hb') ((G2.out.later hb3).later hb')))
     | (go_at_call 61;refine D.out.mono ?_;rintro e w4 ⟨rfl,hb4⟩)
     | fail)
   go_ret
   exact ⟨rfl,HB0.out.trans ((hb3.trans (hb4.mono hb3.size)).mono HB0.out.size)⟩
 · rw [Bool.true_or]
   go_enter Tryz.func28,Tryz.ntmps28
   go_upto_region 1 with fail
   generalize ((w.alloc (.cells (knA A (.slice ov l.length cv)) 31)).alloc (.cells #[.string id] 9)).alloc (.cells #[.int .i64 r,.int .i64 c] 67) = W at *
   have l1:=G1.out.cell
   have z1:=G1.out.lt
   have l3:=G3.out.cell
   have z3:=G3.out.lt
   have CH1:=CH W
   rw [hh] at CH1
   go_wp2_with (go_at_call 60;refine CH1.out.mono ?_;rintro e w3 ⟨rfl,hb3⟩)
   go_ret
   exact ⟨rfl,HB0.out.trans (hb3.mono HB0.out.size)⟩
theorem zbs {P:Program} {ops:Array Oper} {rest:List Oper} {op:Oper} {a:Act} {w:World} {Q:Exit → Act → World → Prop} (hw:Region.wanted op (yielded ops a.tmps) = true) (ty:TypeId) (x:Operand) (ho:op.op = .load ty x)
   (b o:Nat) (hx:a.eval x = .pointer (some ⟨b,o,none⟩)) (cs:List Value) (d:TypeDesc) (hc:w.rangeAt b o cs)
   (hu:P.underlying ty = some d) (hd:d.isRow = true) (hi:(P.info? ty).map (·.size) = some cs.length)
   (h:wpList P ops Q rest (a.put op.dst (.agg cs.toArray)) w):wpList P ops Q (op :: rest) a w :=
 wpList_step fun K hK=>by rw [if_pos hw];exact wp_load_mid ty x ho b o hx cs d hc hu hd hi (hK _ _ h)
theorem zb2 (n a b:Int) (w:World) :
   Calls Tryz.prog 45 #[.int .i64 n,.int .i64 a,.int .i64 b] w fun e w'=>e = .returned (.bool (inB n a b)) ∧ w = w':=by
 unfold inB
 by_cases h:a ≤ n <;> by_cases h':n ≤ b <;>
 ( go_enter Tryz.func45,Tryz.ntmps45
   go_wp2
   go_ret
   exact ⟨zaa (by simp [h,h']),rfl⟩ )
theorem zde (x:Itm) (p:Pr) (v:Value) (w:World) (hL:LP w p v) (hx:x.id.size ≤ maxLen) :
   Calls Tryz.prog 30 #[prV p v,iV x] w fun e w'=>e = .returned (.bool (hasT p x)) ∧ Below w.heap.size w w':=zq3 x.it x.r x.c x.st x.d hx p v w hL
def zdj (s:St) (x:Itm):Bool:=(getI s.out x.id).2 || !hasT s.f x
def zbi (s:St) (x:Itm):Bool:=decide (x.st > s.clock) || !hasK s.k x.id x.r x.c
def zdy (s:St) (k:Nat) (f:Fr):Bool:=decide (f.v k > s.count)
structure StO (w:World) (s:St) (fv sv ov kv:Value) (b:Nat):Prop where
 o:Own w b (stA s fv sv ov kv) 43
 w:StW w s fv sv ov kv
theorem StO.later {w w':World} {s:St} {fv sv ov kv:Value} {b:Nat} (h:StO w s fv sv ov kv b) (hb:Below w.heap.size w w'):StO w' s fv sv ov kv b:=⟨h.o.later hb,h.w.later hb⟩
theorem StO.alloc {w:World} {s:St} {fv sv ov kv:Value} {b:Nat} (h:StO w s fv sv ov kv b) (o:Obj):StO (w.alloc o) s fv sv ov kv b:=⟨h.o.alloc o,h.w.alloc o⟩
theorem StO.drew {w:World} {s:St} {fv sv ov kv:Value} {b:Nat} (h:StO w s fv sv ov kv b):StO w.drew s fv sv ov kv b:=⟨h.o.drew,h.w.drew⟩
theorem zmk (s:St) (fv sv ov kv:Value) (b:Nat) (x:Itm) (w:World) (hO:StO w s fv sv ov kv b) (hx:x.id.size ≤ maxLen) :
   Calls Tryz.prog 76 #[iV x,.pointer (some ⟨b,0,none⟩)] w fun e w'=>e = .returned (.bool (hasT s.f x)) ∧ Below w.heap.size w w':=by
 obtain ⟨of_,cf,rfl⟩:=zam hO.w.lf
 have OX:=y30h (Own.new w (iA x) 69)
 have OS:=y30h (hO.alloc (.cells (iA x) 69))
 have BE:=y30h ((Below.refl w.heap.size w).alloc (Nat.le_refl _) (.cells (iA x) 69))
 have CH:=y30h (zde x s.f _ _ OS.out.w.lf hx)
 have lx:=OX.out.cell
 have ls:=OS.out.o.cell
 have zs:=OS.out.o.lt
 clear hO
 generalize hasT s.f x = hb at *
 go_enter Tryz.func76,Tryz.ntmps76
 go_wp2_with (go_at_call 30;refine CH.out.mono ?_;rintro e w3 ⟨rfl,hb3⟩)
 go_ret
 exact ⟨rfl,BE.out.trans (hb3.mono BE.out.size)⟩
theorem zlp (s:St) (fv sv ov kv:Value) (b:Nat) (x:Itm) (w:World) (hO:StO w s fv sv ov kv b) (hr:zak s.out) (hl:s.out.length ≤ 1000) (hx:x.id.size ≤ maxLen) :
   Calls Tryz.prog 74 #[iV x,.pointer (some ⟨b,0,none⟩)] w fun e w'=>e = .returned (.bool (zdj s x)) ∧ Below w.heap.size w w':=by
 obtain ⟨of_,cf,rfl⟩:=zam hO.w.lf
 obtain ⟨oo,co,rfl⟩:=hO.w.lo.val
 have OX:=y30h (Own.new w (iA x) 69)
 have OS:=y30h (hO.alloc (.cells (iA x) 69))
 have BE:=y30h ((Below.refl w.heap.size w).alloc (Nat.le_refl _) (.cells (iA x) 69))
 have CG:=y30h (zd2 s.out x.id _ _ OS.out.w.lo hr hl hx)
 have lx:=OX.out.cell
 have zx:=OX.out.lt
 have ls:=OS.out.o.cell
 have zs:=OS.out.o.lt
 have e:zdj s x = ((getI s.out x.id).2 || !hasT s.f x):=rfl
 rw [e]
 clear hO e
 have CH:=fun w' h=>y30h (zde x s.f (.slice of_ s.f.kids.length cf) w' h hx)
 generalize hasT s.f x = hb at *
 generalize (getI s.out x.id).1 = y at *
 cases hg:(getI s.out x.id).2
 · rw [hg] at CG
   go_enter Tryz.func74,Tryz.ntmps74
   go_upto_region 2 with (go_at_call 75;refine CG.out.mono ?_;rintro e w3 ⟨rfl,hb3⟩;clear lx zx ls zs;replace OX:=y30h (OX.out.later hb3);replace OS:=y30h (OS.out.later hb3);replace BE:=y30h (BE.out.trans (hb3.mono BE.out.size));clear hb3)
   replace OX:=y30h (OX.out.alloc (.cells (iA y) 69))
   replace OS:=y30h (OS.out.alloc (.cells (iA y) 69))
   replace BE:=y30h (BE.out.alloc BE.out.size (.cells (iA y) 69))
   have lx:=OX.out.cell
   have zx:=OX.out.lt
   have ls:=OS.out.o.cell
   have zs:=OS.out.o.lt
   have CH:=CH _ OS.out.w.lf
   go_wp2_with (go_at_call 30;refine CH.out.mono ?_;rintro e w4 ⟨rfl,hb4⟩)
   go_ret
   exact ⟨zaa (by simp),BE.out.trans (hb4.mono BE.out.size)⟩
 · rw [hg] at CG
   go_enter Tryz.func74,Tryz.ntmps74
   go_wp2_with (go_at_call 75;refine CG.out.mono ?_;rintro e w3 ⟨rfl,hb3⟩)
   go_ret
   exact ⟨zaa (by simp),(BE.out.trans (hb3.mono BE.out.size)).alloc (by have:=BE.out.size;have:=hb3.size;omega) _⟩
theorem zgh (s:St) (fv sv ov kv:Value) (b:Nat) (x:Itm) (w:World) (hO:StO w s fv sv ov kv b) (hx:x.id.size ≤ maxLen) :
   Calls Tryz.prog 82 #[iV x,.pointer (some ⟨b,0,none⟩)] w fun e w'=>e = .returned (.bool (zbi s x)) ∧ Below w.heap.size w w':=by
 obtain ⟨ok,ck,rfl⟩:=hO.w.lk.val
 have OX:=y30h (Own.new w (iA x) 69)
 have OS:=y30h (hO.alloc (.cells (iA x) 69))
 have BE:=y30h ((Below.refl w.heap.size w).alloc (Nat.le_refl _) (.cells (iA x) 69))
 have CK:=y30h (zgb s.k x.id x.r x.c _ _ OS.out.w.lk hx)
 have lx:=OX.out.cell
 have zx:=OX.out.lt
 have ls:=OS.out.o.cell
 have zs:=OS.out.o.lt
 clear hO
 unfold zbi
 by_cases h:x.st > s.clock
 · go_enter Tryz.func82,Tryz.ntmps82
   go_wp2_with fail
   go_ret
   exact ⟨zaa (by simp [h]),BE.out⟩
 · generalize hasK s.k x.id x.r x.c = hb at *
   have h':decide (s.clock < x.st) = false:=decide_eq_false (by omega)
   go_enter Tryz.func82,Tryz.ntmps82
   go_wp2_with (go_at_call 28;refine CK.out.mono ?_;rintro e w3 ⟨rfl,hb3⟩)
   go_ret
   exact ⟨zaa (by simp [h']),BE.out.trans (hb3.mono BE.out.size)⟩
theorem zwn (f:Fr) (u:Value) {k:Nat} (hk:k < 8):(#[u,.int .i64 (f.v 0),.int .i64 (f.v 1),.int .i64 (f.v 2),.int .i64 (f.v 3),.int .i64 (f.v 4),.int .i64 (f.v 5),.int .i64 (f.v 6),.int .i64 (f.v 7)]:Array Value)[1 + k]? = some (.int .i64 (f.v k)):=by
 match k,hk with
 | 0,_ | 1,_ | 2,_ | 3,_ | 4,_ | 5,_ | 6,_ | 7,_=>rfl
theorem zt5 (s:St) (fv sv ov kv:Value) {k:Nat} (hk:k < 8):(stA s fv sv ov kv)[8 + k]? = some (.int .i64 (s.k.star k)):=by
 match k,hk with
 | 0,_ | 1,_ | 2,_ | 3,_ | 4,_ | 5,_ | 6,_ | 7,_=>rfl
theorem znb (s:St) (fv sv ov kv:Value) (b k:Nat) (hk:k < 8) (hr:s.r = (k:Int) + 1) (f:Fr) (u:Value) (w:World) (hO:Own w b (stA s fv sv ov kv) 43) (hT:TxW w f.ids u) :
   Calls Tryz.prog 83 #[frV f u,.pointer (some ⟨b,0,none⟩)] w fun e w'=>e = .returned (.bool (zdy s k f)) ∧ Below w.heap.size w w':=by
 obtain ⟨ou,cu,rfl⟩:=hT.val
 have OX:=y30h (Own.new w #[.slice ou f.ids.length cu,.int .i64 (f.v 0),.int .i64 (f.v 1),.int .i64 (f.v 2),.int .i64 (f.v 3),.int .i64 (f.v 4),.int .i64 (f.v 5),.int .i64 (f.v 6),.int .i64 (f.v 7)] 105)
 have OS:=y30h (hO.alloc (.cells #[.slice ou f.ids.length cu,.int .i64 (f.v 0),.int .i64 (f.v 1),.int .i64 (f.v 2),.int .i64 (f.v 3),.int .i64 (f.v 4),.int .i64 (f.v 5),.int .i64 (f.v 6),.int .i64 (f.v 7)] 105))
 have BE:=y30h ((Below.refl w.heap.size w).alloc (Nat.le_refl _) (.cells #[.slice ou f.ids.length cu,.int .i64 (f.v 0),.int .i64 (f.v 1),.int .i64 (f.v 2),.int .i64 (f.v 3),.int .i64 (f.v 4),.int .i64 (f.v 5),.int .i64 (f.v 6),.int .i64 (f.v 7)] 105))
 have LX:=fun dd os=>(OX.out.has.regrown dd os (1 + k)).trans (zwn f _ hk)
 have LS:=fun dd os=>(OS.out.has.regrown dd os 0).trans (show _ = some (Value.int .i64 ((k:Int) + 1)) from by rw [← hr];rfl)
 have LT:=fun dd os=>(OS.out.has.regrown dd os 17).trans (show _ = some (Value.int .i64 s.count) from rfl)
 have zx:=OX.out.lt
 have zs:=OS.out.lt
 unfold zdy
 have k0:(0:Int) ≤ (k:Int):=by omega
 have k1:(k:Int) < 8:=by omega
 have k2:(k:Int) + 1 - 1 = k:=by omega
 clear hO hT hr
 generalize f.v k = fk at *
 go_enter Tryz.func83,Tryz.ntmps83
 go_wp2_with fail
 refine wp_region_quiet_below (by kernel_rfl) (by kernel_rfl) ?_
 repeat (first | go_big_quiet_step (fail) | quiet_step (fail))
 refine wpQuiet_nil ?_
 intro w7 hw'
 have hb7:=zae hw'
 clear hw' LX LS LT
 go_wp2_with fail
 go_ret
 exact ⟨rfl,BE.out.trans (hb7.mono BE.out.size)⟩
theorem zer {P:Itm → Bool} {l:List Itm} {k:Nat} {f:Itm} (hf:l[k]? = some f) (h:(l.take k).any P = false) (hs:P f = false):(l.take (k + 1)).any P = false:=by
 rw [zdk hf,List.any_append,h];simp [hs]
def FstI (P:Itm → Bool) (l:List Itm) (n:Int):Prop:=(∃ (k:Nat) (x:Itm),l[k]? = some x ∧ P x = true ∧ n = k ∧ (l.take k).any P = false) ∨ (n = -1 ∧ l.any P = false)
theorem FstI.any {P:Itm → Bool} {l:List Itm} {n:Int} (h:FstI P l n):decide (0 ≤ n) = l.any P:=by
 rcases h with ⟨k,x,hx,hp,rfl,_⟩ | ⟨rfl,h⟩
 · rw [List.any_eq_true.2 ⟨x,List.mem_of_getElem? hx,hp⟩];simp
 · rw [h];rfl
def zli (P:Itm → Bool) (l:List Itm) (n:Nat) (w0:World) (i:Value) (wr:World):Prop:=∃ k:Nat,k ≤ n ∧ i = .int .i64 k ∧ Hid ((l.take k).any P = false) ∧ Hid (Below w0.heap.size w0 wr)
theorem zhi (P:Itm → Bool) (l:List Itm) (v:Value) (bx:Nat) (w:World) (hR:Row 8 ic w l v) (C:∀ w',Below w.heap.size w w' → ∀ x ∈ l,Calls Tryz.prog 74 #[iV x,.pointer (some ⟨bx,0,none⟩)] w' fun e w''=>e = .returned (.bool (P x)) ∧ Below w'.heap.size w' w'') :
   Calls Tryz.prog 104 #[v,.func (Fn.func 74) #[] #[.pointer (some ⟨bx,0,none⟩)]] w fun e w'=>∃ n:Int,e = .returned (.int .i64 n) ∧ FstI P l n ∧ Below w.heap.size w w':=by
 obtain ⟨oa,cap,b,o,rfl,hF⟩:=hR
 have h1:=hF.len
 have h2:=hF.max
 unfold maxLen at h2
 have HF:=y30h hF
 have HC:=y30h C
 clear hF C
 generalize hn:l.length = n at *
 have HN:=y30h hn
 clear hn
 go_enter Tryz.func104,Tryz.ntmps104
 go_wp2_with fail
 go_loopw [8] (fun i wr=>zli P l n w i wr) (fun i _=>n - (intOf i).toNat)
 case atStart=>exact ⟨0,Nat.zero_le _,rfl,by simp [Hid],y30h (Below.refl _ _)⟩
 case round =>
   obtain ⟨k,hk,rfl,HS,HB⟩:=hrel
   by_cases hlt:k < n
   · obtain ⟨x,hx⟩:∃ x,l[k]? = some x:=⟨_,List.getElem?_eq_getElem (by rw [HN.out];exact hlt)⟩
     obtain ⟨rfl,hb⟩:=HF.out.at0 (by rw [HN.out];omega)
     obtain ⟨c0,c1,c2,c3,c4,c5,c6,c7⟩:=zaw (w:=wr) (fun j u hu=>(HB.out.cell (p:=⟨b,o + k * 8 + j,none⟩) hb).trans (HF.out.cell k x hx j u hu))
     have zb:b < wr.heap.size:=Nat.lt_of_lt_of_le hb HB.out.size
     have CC:=y30h (HC.out wr HB.out x (List.mem_of_getElem? hx))
     have HX:=y30h hx
     clear hx
     cases hs:P x
     · rw [hs] at CC
       have HY:=y30h (zer HX.out HS.out hs)
       clear HS
       go_wp2_with (go_at_call 74;refine CC.out.mono ?_;rintro e w' ⟨rfl,hb'⟩)
       go_roundw
       case rel=>exact ⟨k + 1,by omega,by go_num,HY,y30h (HB.out.trans (hb'.mono HB.out.size))⟩
       case measure=>simp [intOf];omega
     · rw [hs] at CC
       have HY:=y30h hs
       go_wp2_with (go_at_call 74;refine CC.out.mono ?_;rintro e w' ⟨rfl,hb'⟩)
       go_ret
       exact ⟨_,rfl,.inl ⟨k,x,HX.out,HY.out,rfl,HS.out⟩,HB.out.trans (hb'.mono HB.out.size)⟩
   · have h:=HS.out
     rw [List.take_of_length_le (by rw [HN.out];omega)] at h
     have HY:=y30h h
     clear h HS
     go_wp2_with fail
     go_ret
     exact ⟨_,rfl,.inr ⟨rfl,HY.out⟩,HB.out⟩
theorem zfs (P:Itm → Bool) (l:List Itm) (v:Value) (bx:Nat) (w:World) (hR:Row 8 ic w l v) (C:∀ w',Below w.heap.size w w' → ∀ x ∈ l,Calls Tryz.prog 74 #[iV x,.pointer (some ⟨bx,0,none⟩)] w' fun e w''=>e = .returned (.bool (P x)) ∧ Below w'.heap.size w' w'') :
   Calls Tryz.prog 77 #[v,.func (Fn.func 74) #[] #[.pointer (some ⟨bx,0,none⟩)]] w fun e w'=>e = .returned (.bool (l.any P)) ∧ Below w.heap.size w w':=by
 have D:=y30h (zhi P l v bx w hR C)
 obtain ⟨oa,cap,rfl⟩:=hR.val
 clear hR C
 go_enter Tryz.func77,Tryz.ntmps77
 go_wp2_with (go_at_call 104;refine D.out.mono ?_;rintro e w' ⟨n,rfl,hn,hb⟩)
 go_ret
 have hn:=hn.any
 first | exact ⟨zaa hn,hb⟩ | exact ⟨rfl,hb⟩
theorem zhj (P:Itm → Bool) (l:List Itm) (v:Value) (bx:Nat) (w:World) (hR:Row 8 ic w l v) (C:∀ w',Below w.heap.size w w' → ∀ x ∈ l,Calls Tryz.prog 76 #[iV x,.pointer (some ⟨bx,0,none⟩)] w' fun e w''=>e = .returned (.bool (P x)) ∧ Below w'.heap.size w' w'') :
   Calls Tryz.prog 104 #[v,.func (Fn.func 76) #[] #[.pointer (some ⟨bx,0,none⟩)]] w fun e w'=>∃ n:Int,e = .returned (.int .i64 n) ∧ FstI P l n ∧ Below w.heap.size w w':=by
 obtain ⟨oa,cap,b,o,rfl,hF⟩:=hR
 have h1:=hF.len
 have h2:=hF.max
 unfold maxLen at h2
 have HF:=y30h hF
 have HC:=y30h C
 clear hF C
 generalize hn:l.length = n at *
 have HN:=y30h hn
 clear hn
 go_enter Tryz.func104,Tryz.ntmps104
 go_wp2_with fail
 go_loopw [8] (fun i wr=>zli P l n w i wr) (fun i _=>n - (intOf i).toNat)
 case atStart=>exact ⟨0,Nat.zero_le _,rfl,by simp [Hid],y30h (Below.refl _ _)⟩
 case round =>
   obtain ⟨k,hk,rfl,HS,HB⟩:=hrel
   by_cases hlt:k < n
   · obtain ⟨x,hx⟩:∃ x,l[k]? = some x:=⟨_,List.getElem?_eq_getElem (by rw [HN.out];exact hlt)⟩
     obtain ⟨rfl,hb⟩:=HF.out.at0 (by rw [HN.out];omega)
     obtain ⟨c0,c1,c2,c3,c4,c5,c6,c7⟩:=zaw (w:=wr) (fun j u hu=>(HB.out.cell (p:=⟨b,o + k * 8 + j,none⟩) hb).trans (HF.out.cell k x hx j u hu))
     have zb:b < wr.heap.size:=Nat.lt_of_lt_of_le hb HB.out.size
     have CC:=y30h (HC.out wr HB.out x (List.mem_of_getElem? hx))
     have HX:=y30h hx
     clear hx
     cases hs:P x
     · rw [hs] at CC
       have HY:=y30h (zer HX.out HS.out hs)
       clear HS
       go_wp2_with (go_at_call 76;refine CC.out.mono ?_;rintro e w' ⟨rfl,hb'⟩)
       go_roundw
       case rel=>exact ⟨k + 1,by omega,by go_num,HY,y30h (HB.out.trans (hb'.mono HB.out.size))⟩
       case measure=>simp [intOf];omega
     · rw [hs] at CC
       have HY:=y30h hs
       go_wp2_with (go_at_call 76;refine CC.out.mono ?_;rintro e w' ⟨rfl,hb'⟩)
       go_ret
       exact ⟨_,rfl,.inl ⟨k,x,HX.out,HY.out,rfl,HS.out⟩,HB.out.trans (hb'.mono HB.out.size)⟩
   · have h:=HS.out
     rw [List.take_of_length_le (by rw [HN.out];omega)] at h
     have HY:=y30h h
     clear h HS
     go_wp2_with fail
     go_ret
     exact ⟨_,rfl,.inr ⟨rfl,HY.out⟩,HB.out⟩
theorem zft (P:Itm → Bool) (l:List Itm) (v:Value) (bx:Nat) (w:World) (hR:Row 8 ic w l v) (C:∀ w',Below w.heap.size w w' → ∀ x ∈ l,Calls Tryz.prog 76 #[iV x,.pointer (some ⟨bx,0,none⟩)] w' fun e w''=>e = .returned (.bool (P x)) ∧ Below w'.heap.size w' w'') :
   Calls Tryz.prog 77 #[v,.func (Fn.func 76) #[] #[.pointer (some ⟨bx,0,none⟩)]] w fun e w'=>e = .returned (.bool (l.any P)) ∧ Below w.heap.size w w':=by
 have D:=y30h (zhj P l v bx w hR C)
 obtain ⟨oa,cap,rfl⟩:=hR.val
 clear hR C
 go_enter Tryz.func77,Tryz.ntmps77
 go_wp2_with (go_at_call 104;refine D.out.mono ?_;rintro e w' ⟨n,rfl,hn,hb⟩)
 go_ret
 have hn:=hn.any
 first | exact ⟨zaa hn,hb⟩ | exact ⟨rfl,hb⟩
theorem zgt (P:Itm → Bool) (l:List Itm) (v:Value) (bx:Nat) (w:World) (hR:Row 8 ic w l v) (C:∀ w',Below w.heap.size w w' → ∀ x ∈ l,Calls Tryz.prog 82 #[iV x,.pointer (some ⟨bx,0,none⟩)] w' fun e w''=>e = .returned (.bool (P x)) ∧ Below w'.heap.size w' w'') :
   Calls Tryz.prog 104 #[v,.func (Fn.func 82) #[] #[.pointer (some ⟨bx,0,none⟩)]] w fun e w'=>∃ n:Int,e = .returned (.int .i64 n) ∧ FstI P l n ∧ Below w.heap.size w w':=by
 obtain ⟨oa,cap,b,o,rfl,hF⟩:=hR
 have h1:=hF.len
 have h2:=hF.max
 unfold maxLen at h2
 have HF:=y30h hF
 have HC:=y30h C
 clear hF C
 generalize hn:l.length = n at *
 have HN:=y30h hn
 clear hn
 go_enter Tryz.func104,Tryz.ntmps104
 go_wp2_with fail
 go_loopw [8] (fun i wr=>zli P l n w i wr) (fun i _=>n - (intOf i).toNat)
 case atStart=>exact ⟨0,Nat.zero_le _,rfl,by simp [Hid],y30h (Below.refl _ _)⟩
 case round =>
   obtain ⟨k,hk,rfl,HS,HB⟩:=hrel
   by_cases hlt:k < n
   · obtain ⟨x,hx⟩:∃ x,l[k]? = some x:=⟨_,List.getElem?_eq_getElem (by rw [HN.out];exact hlt)⟩
     obtain ⟨rfl,hb⟩:=HF.out.at0 (by rw [HN.out];omega)
     obtain ⟨c0,c1,c2,c3,c4,c5,c6,c7⟩:=zaw (w:=wr) (fun j u hu=>(HB.out.cell (p:=⟨b,o + k * 8 + j,none⟩) hb).trans (HF.out.cell k x hx j u hu))
     have zb:b < wr.heap.size:=Nat.lt_of_lt_of_le hb HB.out.size
     have CC:=y30h (HC.out wr HB.out x (List.mem_of_getElem? hx))
     have HX:=y30h hx
     clear hx
     cases hs:P x
     · rw [hs] at CC
       have HY:=y30h (zer HX.out HS.out hs)
       clear HS
       go_wp2_with (go_at_call 82;refine CC.out.mono ?_;rintro e w' ⟨rfl,hb'⟩)
       go_roundw
       case rel=>exact ⟨k + 1,by omega,by go_num,HY,y30h (HB.out.trans (hb'.mono HB.out.size))⟩
       case measure=>simp [intOf];omega
     · rw [hs] at CC
       have HY:=y30h hs
       go_wp2_with (go_at_call 82;refine CC.out.mono ?_;rintro e w' ⟨rfl,hb'⟩)
       go_ret
       exact ⟨_,rfl,.inl ⟨k,x,HX.out,HY.out,rfl,HS.out⟩,HB.out.trans (hb'.mono HB.out.size)⟩
   · have h:=HS.out
     rw [List.take_of_length_le (by rw [HN.out];omega)] at h
     have HY:=y30h h
     clear h HS
     go_wp2_with fail
     go_ret
     exact ⟨_,rfl,.inr ⟨rfl,HY.out⟩,HB.out⟩
theorem zc4 (P:Itm → Bool) (l:List Itm) (v:Value) (bx:Nat) (w:World) (hR:Row 8 ic w l v) (C:∀ w',Below w.heap.size w w' → ∀ x ∈ l,Calls Tryz.prog 82 #[iV x,.pointer (some ⟨bx,0,none⟩)] w' fun e w''=>e = .returned (.bool (P x)) ∧ Below w'.heap.size w' w'') :
   Calls Tryz.prog 77 #[v,.func (Fn.func 82) #[] #[.pointer (some ⟨bx,0,none⟩)]] w fun e w'=>e = .returned (.bool (l.any P)) ∧ Below w.heap.size w w':=by
 have D:=y30h (zgt P l v bx w hR C)
 obtain ⟨oa,cap,rfl⟩:=hR.val
 clear hR C
 go_enter Tryz.func77,Tryz.ntmps77
 go_wp2_with (go_at_call 104;refine D.out.mono ?_;rintro e w' ⟨n,rfl,hn,hb⟩)
 go_ret
 have hn:=hn.any
 first | exact ⟨zaa hn,hb⟩ | exact ⟨rfl,hb⟩
theorem zi5 (P:Itm → Bool) (l:List Itm) (v:Value) (w:World) (hR:Row 8 ic w l v) (C:∀ w',Below w.heap.size w w' → ∀ x ∈ l,Calls Tryz.prog 57 #[iV x] w' fun e w''=>e = .returned (.bool (P x)) ∧ Below w'.heap.size w' w'') :
   Calls Tryz.prog 104 #[v,.func (Fn.func 57) #[] #[]] w fun e w'=>∃ n:Int,e = .returned (.int .i64 n) ∧ FstI P l n ∧ Below w.heap.size w w':=by
 obtain ⟨oa,cap,b,o,rfl,hF⟩:=hR
 have h1:=hF.len
 have h2:=hF.max
 unfold maxLen at h2
 have HF:=y30h hF
 have HC:=y30h C
 clear hF C
 generalize hn:l.length = n at *
 have HN:=y30h hn
 clear hn
 go_enter Tryz.func104,Tryz.ntmps104
 go_wp2_with fail
 go_loopw [8] (fun i wr=>zli P l n w i wr) (fun i _=>n - (intOf i).toNat)
 case atStart=>exact ⟨0,Nat.zero_le _,rfl,by simp [Hid],y30h (Below.refl _ _)⟩
 case round =>
   obtain ⟨k,hk,rfl,HS,HB⟩:=hrel
   by_cases hlt:k < n
   · obtain ⟨x,hx⟩:∃ x,l[k]? = some x:=⟨_,List.getElem?_eq_getElem (by rw [HN.out];exact hlt)⟩
     obtain ⟨rfl,hb⟩:=HF.out.at0 (by rw [HN.out];omega)
     obtain ⟨c0,c1,c2,c3,c4,c5,c6,c7⟩:=zaw (w:=wr) (fun j u hu=>(HB.out.cell (p:=⟨b,o + k * 8 + j,none⟩) hb).trans (HF.out.cell k x hx j u hu))
     have zb:b < wr.heap.size:=Nat.lt_of_lt_of_le hb HB.out.size
     have CC:=y30h (HC.out wr HB.out x (List.mem_of_getElem? hx))
     have HX:=y30h hx
     clear hx
     cases hs:P x
     · rw [hs] at CC
       have HY:=y30h (zer HX.out HS.out hs)
       clear HS
       go_wp2_with (go_at_call 57;refine CC.out.mono ?_;rintro e w' ⟨rfl,hb'⟩)
       go_roundw
       case rel=>exact ⟨k + 1,by omega,by go_num,HY,y30h (HB.out.trans (hb'.mono HB.out.size))⟩
       case measure=>simp [intOf];omega
     · rw [hs] at CC
       have HY:=y30h hs
       go_wp2_with (go_at_call 57;refine CC.out.mono ?_;rintro e w' ⟨rfl,hb'⟩)
       go_ret
       exact ⟨_,rfl,.inl ⟨k,x,HX.out,HY.out,rfl,HS.out⟩,HB.out.trans (hb'.mono HB.out.size)⟩
   · have h:=HS.out
     rw [List.take_of_length_le (by rw [HN.out];omega)] at h
     have HY:=y30h h
     clear h HS
     go_wp2_with fail
     go_ret
     exact ⟨_,rfl,.inr ⟨rfl,HY.out⟩,HB.out⟩
theorem zia (P:Fr → Bool) (l:List Fr) (v:Value) (bx:Nat) (w:World) (hR:FrW w l v) (C:∀ w',Below w.heap.size w w' → ∀ (k:Nat) (f:Fr) (u:Value),l[k]? = some f → TxW w' f.ids u → Calls Tryz.prog 83 #[frV f u,.pointer (some ⟨bx,0,none⟩)] w' fun e w''=>e = .returned (.bool (P f)) ∧ Below w'.heap.size w' w'') :
   Calls Tryz.prog 108 #[v,.func (Fn.func 83) #[] #[.pointer (some ⟨bx,0,none⟩)]] w fun e w'=>∃ n:Int,e = .returned (.int .i64 n) ∧ decide (0 ≤ n) = l.any P ∧ Below w.heap.size w w':=by
 obtain ⟨U,oa,cap,b,o,rfl,hF⟩:=hR
 have h1:=hF.len
 have h2:=hF.max
 unfold maxLen at h2
 have HF:=y30h hF
 have HC:=y30h C
 clear hF C
 generalize hn:l.length = n at *
 have HN:=y30h hn
 clear hn
 go_enter Tryz.func108,Tryz.ntmps108
 go_wp2_with fail
 go_loopw [8] (fun i wr=>zox P l n w i wr) (fun i _=>n - (intOf i).toNat)
 case atStart=>exact ⟨0,Nat.zero_le _,rfl,by simp [Hid],y30h (Below.refl _ _)⟩
 case round =>
   obtain ⟨k,hk,rfl,HS,HB⟩:=hrel
   by_cases hlt:k < n
   · obtain ⟨f,hf⟩:∃ f,l[k]? = some f:=⟨_,List.getElem?_eq_getElem (by rw [HN.out];exact hlt)⟩
     obtain ⟨rfl,hb⟩:=HF.out.at0 (by rw [HN.out];omega)
     have FL:=HF.out.later HB.out (Nat.le_refl _)
     obtain ⟨c0,c1,c2,c3,c4,c5,c6,c7,c8⟩:=zbm (w:=wr) (fun j u hu=>FL.cell k f hf j u hu)
     have zb:b < wr.heap.size:=Nat.lt_of_lt_of_le hb HB.out.size
     have CC:=y30h (HC.out wr HB.out k f (U k) hf (FL.ids k f hf))
     have HX:=y30h hf
     obtain ⟨ou,cu,hU⟩:=(HF.out.ids k f hf).val
     rw [hU] at c0 CC
     clear FL hf hU
     cases hs:P f
     · rw [hs] at CC
       have HY:=y30h (zgj HX.out HS.out hs)
       clear HS
       go_wp2_with (go_at_call 83;refine CC.out.mono ?_;rintro e w' ⟨rfl,hb'⟩)
       go_roundw
       case rel=>exact ⟨k + 1,by omega,by go_num,HY,y30h (HB.out.trans (hb'.mono HB.out.size))⟩
       case measure=>simp [intOf];omega
     · rw [hs] at CC
       have HY:=y30h (zhz HX.out hs)
       clear HS
       go_wp2_with (go_at_call 83;refine CC.out.mono ?_;rintro e w' ⟨rfl,hb'⟩)
       go_ret
       exact ⟨_,rfl,by rw [HY.out];simp,HB.out.trans (hb'.mono HB.out.size)⟩
   · have h:=HS.out
     rw [List.take_of_length_le (by rw [HN.out];omega)] at h
     have HY:=y30h h
     clear h HS
     go_wp2_with fail
     go_ret
     exact ⟨_,rfl,by rw [HY.out];simp,HB.out⟩
theorem zgi (P:Fr → Bool) (l:List Fr) (v:Value) (bx:Nat) (w:World) (hR:FrW w l v) (C:∀ w',Below w.heap.size w w' → ∀ (k:Nat) (f:Fr) (u:Value),l[k]? = some f → TxW w' f.ids u → Calls Tryz.prog 83 #[frV f u,.pointer (some ⟨bx,0,none⟩)] w' fun e w''=>e = .returned (.bool (P f)) ∧ Below w'.heap.size w' w'') :
   Calls Tryz.prog 61 #[v,.func (Fn.func 83) #[] #[.pointer (some ⟨bx,0,none⟩)]] w fun e w'=>e = .returned (.bool (l.any P)) ∧ Below w.heap.size w w':=by
 have D:=y30h (zia P l v bx w hR C)
 obtain ⟨oa,cap,rfl⟩:=hR.val
 clear hR C
 go_enter Tryz.func61,Tryz.ntmps61
 go_wp2_with (go_at_call 108;refine D.out.mono ?_;rintro e w' ⟨n,rfl,hn,hb⟩)
 go_ret
 first | exact ⟨zaa hn,hb⟩ | exact ⟨rfl,hb⟩
end Go.Proofs.YthnllikalobmeaaGreat
