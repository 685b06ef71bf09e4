/- Joined: LocalKeeps. -/
import Derived.Test.YthnllikalobmeaaGreatJ44
import Derived.Test.YthnllikalobmeaaGreatJ45
import Derived.Test.YthnllikalobmeaaGreatJ43
import Derived.Test.YthnllikalobmeaaGreatJ30
import Derived.Test.YthnllikalobmeaaGreatJ27
import Derived.Test.YthnllikalobmeaaGreatJ22
namespace Go.Proofs.YthnllikalobmeaaGreat
set_option linter.unusedVariables false
set_option linter.unusedSimpArgs false
set_option maxRecDepth 100000
set_option maxHeartbeats 8000000
open Go.RowKit
abbrev y46a:=@List.getElem_toArray
abbrev y46b:=@List.getElem_cons_zero
abbrev y46c:=@List.getElem_cons_succ
abbrev y46d:=@List.setIfInBounds_toArray
abbrev y46e:=@List.set_cons_zero
abbrev y46f:=@List.set_cons_succ
theorem y46h {p:Prop} (h:p):Hid p:=Lib.hid h
def zxn (R:List Itm) (id:ByteArray) (n:Nat) (w0:World) (sv iv:Value) (wr:World):Prop :=
 ∃ k:Nat,k ≤ n ∧ iv = .int .i64 k ∧ sv = .bool ((R.take k).any fun i=>i.id.toList == id.toList) ∧ Hid (w0 = wr)
theorem zid (s:St) (fv sv ov kv:Value) (d:De) (gv:Value) (id:ByteArray) (w:World) (hS:SiW w s fv sv ov kv) (hD:DeW w d gv) (hid:id.size ≤ maxLen) :
   Calls Tryz.prog 6 #[siV s fv sv ov kv,deV d gv,.string id] w fun e w'=>e = .returned (.bool true) ∧ Below w.heap.size w w':=by
 have OA:=y46h ((Own.new w (siL s fv sv ov kv).toArray 33).alloc (.cells (deL d gv).toArray 57))
 have OP:=y46h (Own.newAt (w.alloc (.cells (siL s fv sv ov kv).toArray 33)) (deL d gv).toArray 57 (b:=w.heap.size + 1) (by simp))
 have BEL:=y46h (((Below.refl w.heap.size w).alloc (Nat.le_refl _) (.cells (siL s fv sv ov kv).toArray 33)).alloc (by simp) (.cells (deL d gv).toArray 57))
 have HS:=y46h hS
 have HD:=y46h hD
 have HL:=y46h hD.lf
 have HIDS:=y46h hid
 clear hS hD hid
 have CU:=fun w'=>y46h (zsj w')
 have CF:=fun w' h=>y46h (znl s fv sv ov kv w' h)
 have CM:=fun w' h=>y46h (zhu d.f gv w' h)
 have hff:zcy s = 0 ∨ zcy s = 1:=by
   unfold zcy zjl zcv
   split
   · exact .inl rfl
   · split <;> split <;> simp
 by_cases hz:zcy s = 0 ∨ 60 < d.f.size
 · have hways:(zcy s = 0 ∧ (if d.f.size ≤ 60 then (1:Int) else 0) = 0) ∨ (zcy s = 0 ∧ (if d.f.size ≤ 60 then (1:Int) else 0) = 1) ∨ (zcy s = 1 ∧ (if d.f.size ≤ 60 then (1:Int) else 0) = 0):=by
     by_cases h6:d.f.size ≤ 60
     · rw [if_pos h6]
       rcases hz with h | h
       · exact .inr (.inl ⟨h,rfl⟩)
       · omega
     · rw [if_neg h6]
       rcases hff with h | h
       · exact .inl ⟨h,rfl⟩
       · exact .inr (.inr ⟨h,rfl⟩)
   clear hz hff
   rcases hways with ⟨h1,h2⟩ | ⟨h1,h2⟩ | ⟨h1,h2⟩
   all_goals
     rw [h1] at CF
     rw [h2] at CM
     clear h1 h2
     go_enter Tryz.func6,Tryz.ntmps6
     go_upto_region 2 with (first | (go_at_call 7;refine (CU _).out.mono ?_;rintro e w1 ⟨rfl,hb⟩;replace OA:=y46h (OA.out.later hb);replace OP:=y46h (OP.out.later hb);replace BEL:=y46h (BEL.out.trans (hb.mono BEL.out.size));clear hb) | fail)
     replace OA:=y46h OA.out.drew
     replace OP:=y46h OP.out.drew
     replace BEL:=y46h BEL.out.drew
     refine wp_region_held_drew (S:=(fun w'=>(∀ o,w'.cell? ⟨w.heap.size,o,none⟩ = (siL s fv sv ov kv).toArray[o]?) ∧ ∀ o,w'.cell? ⟨w.heap.size + 1,o,none⟩ = (deL d gv).toArray[o]?)) (by kernel_rfl) (by exact ⟨OA.out.cell,OP.out.cell⟩) (fun hHeld=>?_)
     refine wpAnyH_take (i:=0) (v:=siV s fv sv ov kv) rfl (by kernel_rfl) (by kernel_rfl) (by kernel_rfl) (fun _ _ _ h=>h) (Or.inl ⟨by rfl,fun w5 h5=>zcd 33 _ rfl w.heap.size 0 (by rfl) (siL s fv sv ov kv) _ (fun j v hv=>by rw [Nat.zero_add,h5.1 j];simpa using hv) Tryz.underlying33 (by rfl) (by kernel_rfl)⟩) (by assumption) ?_
     try simp only [Act.put,y46a,y46b,y46c,y46d,y46e,y46f]
     refine wpAnyH_take (i:=2) (v:=?_) rfl (by kernel_rfl) (by kernel_rfl) (by kernel_rfl) (fun _ _ _ h=>h) (Or.inl ⟨by rfl,?_⟩) (by assumption) ?_
     rotate_left 1
     · (intro w hSw;(try dsimp only at hSw);go_simp;try with_reducible rfl)
     try simp only [Act.put,y46a,y46b,y46c,y46d,y46e,y46f]
     refine wpAnyH_take (i:=3) (v:=?_) rfl (by kernel_rfl) (by kernel_rfl) (by kernel_rfl) (fun _ _ _ h=>h) (Or.inl ⟨by rfl,?_⟩) (by assumption) ?_
     rotate_left 1
     · (intro w hSw;(try dsimp only at hSw);go_simp;try with_reducible rfl)
     try simp only [Act.put,y46a,y46b,y46c,y46d,y46e,y46f]
     refine wpAnyH_ready (rs:=[1]) (by kernel_rfl) (by simp) ?_
     refine AllReadyH.cons rfl (fun K hK=>?_) AllReadyH.nil
     try simp only [y46a,y46b,y46c]
     (go_simp;go_at_call 8;refine (CF _ (HS.out.later BEL.out)).out.mono ?_;rintro e w2 ⟨rfl,hb⟩;replace OA:=y46h (OA.out.later hb);replace OP:=y46h (OP.out.later hb);replace BEL:=y46h (BEL.out.trans (hb.mono BEL.out.size));clear hb)
     try go_wp2_with fail
     refine hK.out _ _ (by exact ⟨OA.out.cell,OP.out.cell⟩) (fun hHeld=>?_)
     clear hK K
     try simp only [Act.put,y46a,y46b,y46c,y46d,y46e,y46f]
     refine wpAnyH_ready (rs:=[4]) (by kernel_rfl) (by simp) ?_
     refine AllReadyH.cons rfl (fun K hK=>?_) AllReadyH.nil
     try simp only [y46a,y46b,y46c]
     (go_simp;go_at_call 9;refine (CM _ (HL.out.later BEL.out (Nat.le_refl _))).out.mono ?_;rintro e w2b ⟨rfl,hb⟩;replace OA:=y46h (OA.out.later hb);replace OP:=y46h (OP.out.later hb);replace BEL:=y46h (BEL.out.trans (hb.mono BEL.out.size));clear hb)
     try go_wp2_with fail
     refine hK.out _ _ (by exact ⟨OA.out.cell,OP.out.cell⟩) (fun hHeld=>?_)
     clear hK K
     try simp only [Act.put,y46a,y46b,y46c,y46d,y46e,y46f]
     refine wpAnyH_take (i:=5) (v:=?_) rfl (by kernel_rfl) (by kernel_rfl) (by kernel_rfl) (fun _ _ _ h=>h) (Or.inl ⟨by rfl,?_⟩) (by assumption) ?_
     rotate_left 1
     · (intro w hSw;(try dsimp only at hSw);go_simp;try with_reducible rfl)
     try simp only [Act.put,y46a,y46b,y46c,y46d,y46e,y46f]
     refine wpAnyH_take (i:=6) (v:=?_) rfl (by kernel_rfl) (by kernel_rfl) (by kernel_rfl) (fun _ _ _ h=>h) (Or.inl ⟨by rfl,?_⟩) (by assumption) ?_
     rotate_left 1
     · (intro w hSw;(try dsimp only at hSw);go_simp;try with_reducible rfl)
     try simp only [Act.put,y46a,y46b,y46c,y46d,y46e,y46f]
     refine wpAnyH_done (by kernel_rfl) ?_ _
     clear hHeld
     go_wp2_with fail
     go_ret
     exact ⟨rfl,BEL.out⟩
 · have h1:zcy s = 1:=by rcases hff with h | h;exact absurd (.inl h) hz;exact h
   have h2:d.f.size ≤ 60:=by omega
   have HB:=y46h (zve h1)
   rw [h1] at CF
   rw [if_pos h2] at CM
   clear hz hff h1
   have CS:=fun w' h=>y46h (zn2 s fv sv ov kv w' h HB.out.f (Nat.le_trans HB.out.ls (by decide)) (Nat.le_trans HB.out.lo (by decide)))
   cases hms:mayS s
   · have HMS:=y46h hms
     clear hms h2
     go_enter Tryz.func6,Tryz.ntmps6
     go_upto_region 2 with (first | (go_at_call 7;refine (CU _).out.mono ?_;rintro e w1 ⟨rfl,hb⟩;replace OA:=y46h (OA.out.later hb);replace OP:=y46h (OP.out.later hb);replace BEL:=y46h (BEL.out.trans (hb.mono BEL.out.size));clear hb) | fail)
     replace OA:=y46h OA.out.drew
     replace OP:=y46h OP.out.drew
     replace BEL:=y46h BEL.out.drew
     refine wp_region_held_drew (S:=(fun w'=>(∀ o,w'.cell? ⟨w.heap.size,o,none⟩ = (siL s fv sv ov kv).toArray[o]?) ∧ ∀ o,w'.cell? ⟨w.heap.size + 1,o,none⟩ = (deL d gv).toArray[o]?)) (by kernel_rfl) (by exact ⟨OA.out.cell,OP.out.cell⟩) (fun hHeld=>?_)
     refine wpAnyH_take (i:=0) (v:=siV s fv sv ov kv) rfl (by kernel_rfl) (by kernel_rfl) (by kernel_rfl) (fun _ _ _ h=>h) (Or.inl ⟨by rfl,fun w5 h5=>zcd 33 _ rfl w.heap.size 0 (by rfl) (siL s fv sv ov kv) _ (fun j v hv=>by rw [Nat.zero_add,h5.1 j];simpa using hv) Tryz.underlying33 (by rfl) (by kernel_rfl)⟩) (by assumption) ?_
     try simp only [Act.put,y46a,y46b,y46c,y46d,y46e,y46f]
     refine wpAnyH_take (i:=2) (v:=?_) rfl (by kernel_rfl) (by kernel_rfl) (by kernel_rfl) (fun _ _ _ h=>h) (Or.inl ⟨by rfl,?_⟩) (by assumption) ?_
     rotate_left 1
     · (intro w hSw;(try dsimp only at hSw);go_simp;try with_reducible rfl)
     try simp only [Act.put,y46a,y46b,y46c,y46d,y46e,y46f]
     refine wpAnyH_take (i:=3) (v:=?_) rfl (by kernel_rfl) (by kernel_rfl) (by kernel_rfl) (fun _ _ _ h=>h) (Or.inl ⟨by rfl,?_⟩) (by assumption) ?_
     rotate_left 1
     · (intro w hSw;(try dsimp only at hSw);go_simp;try with_reducible rfl)
     try simp only [Act.put,y46a,y46b,y46c,y46d,y46e,y46f]
     refine wpAnyH_ready (rs:=[1]) (by kernel_rfl) (by simp) ?_
     refine AllReadyH.cons rfl (fun K hK=>?_) AllReadyH.nil
     try simp only [y46a,y46b,y46c]
     (go_simp;go_at_call 8;refine (CF _ (HS.out.later BEL.out)).out.mono ?_;rintro e w2 ⟨rfl,hb⟩;replace OA:=y46h (OA.out.later hb);replace OP:=y46h (OP.out.later hb);replace BEL:=y46h (BEL.out.trans (hb.mono BEL.out.size));clear hb)
     try go_wp2_with fail
     refine hK.out _ _ (by exact ⟨OA.out.cell,OP.out.cell⟩) (fun hHeld=>?_)
     clear hK K
     try simp only [Act.put,y46a,y46b,y46c,y46d,y46e,y46f]
     refine wpAnyH_ready (rs:=[4]) (by kernel_rfl) (by simp) ?_
     refine AllReadyH.cons rfl (fun K hK=>?_) AllReadyH.nil
     try simp only [y46a,y46b,y46c]
     (go_simp;go_at_call 9;refine (CM _ (HL.out.later BEL.out (Nat.le_refl _))).out.mono ?_;rintro e w2b ⟨rfl,hb⟩;replace OA:=y46h (OA.out.later hb);replace OP:=y46h (OP.out.later hb);replace BEL:=y46h (BEL.out.trans (hb.mono BEL.out.size));clear hb)
     try go_wp2_with fail
     refine hK.out _ _ (by exact ⟨OA.out.cell,OP.out.cell⟩) (fun hHeld=>?_)
     clear hK K
     try simp only [Act.put,y46a,y46b,y46c,y46d,y46e,y46f]
     refine wpAnyH_take (i:=5) (v:=?_) rfl (by kernel_rfl) (by kernel_rfl) (by kernel_rfl) (fun _ _ _ h=>h) (Or.inl ⟨by rfl,?_⟩) (by assumption) ?_
     rotate_left 1
     · (intro w hSw;(try dsimp only at hSw);go_simp;try with_reducible rfl)
     try simp only [Act.put,y46a,y46b,y46c,y46d,y46e,y46f]
     refine wpAnyH_take (i:=6) (v:=?_) rfl (by kernel_rfl) (by kernel_rfl) (by kernel_rfl) (fun _ _ _ h=>h) (Or.inl ⟨by rfl,?_⟩) (by assumption) ?_
     rotate_left 1
     · (intro w hSw;(try dsimp only at hSw);go_simp;try with_reducible rfl)
     try simp only [Act.put,y46a,y46b,y46c,y46d,y46e,y46f]
     refine wpAnyH_done (by kernel_rfl) ?_ _
     clear hHeld
     have hkv:kv.oneCell' = true:=by obtain ⟨_,_,e⟩:=HS.out.lk.val;rw [e];rfl
     go_wp2_with (first | (refine wpList_load_mid (by rfl) 33 _ (by rfl) w.heap.size 0 (by rfl) (siL s fv sv ov kv) _ OA.out.range Tryz.underlying33 (by rfl) (by kernel_rfl) ?_) | (go_at_call 10;refine (CS _ (HS.out.later BEL.out)).out.mono ?_;rintro e w3 ⟨fx,sx,ox,rfl,hst,hb⟩;have g1:fx.oneCell' = true:=za2 hst.lf;have g2:sx.oneCell' = true:=(by obtain ⟨_,_,_,_,e,_⟩:=hst.ls;rw [e];rfl);have g3:ox.oneCell' = true:=(by obtain ⟨_,_,_,_,e,_⟩:=hst.lo;rw [e];rfl);have g4:kv.oneCell' = true:=(by obtain ⟨_,_,e⟩:=hst.lk.val;rw [e];rfl);unfold Value.oneCell' at g1 g2 g3 g4;replace OA:=y46h (OA.out.later hb);replace OP:=y46h (OP.out.later hb);replace BEL:=y46h (BEL.out.trans (hb.mono BEL.out.size));have X:=y46h hst;have O8:=y46h (Own.new w3 stZ.toArray 43);clear hst hb) | (refine wpList_store_mid (by rfl) 43 _ _ (by rfl) w3.heap.size 0 (stA s fx sx ox kv) (by rfl) (by rfl) (O8.out.there (by rfl)) (by kernel_rfl) (by simp [Value.oneCell',g1,g2,g3,g4]) ?_;have HK:=y46h (And.intro (O8.out.sets (stA s fx sx ox kv).toList (by rfl)) (zab (B:=w3.heap.size) (b:=w3.heap.size) (Nat.le_refl _) (stA s fx sx ox kv).toList 0 ((Below.refl _ _).alloc (Nat.le_refl _) (.cells stZ.toArray 43))));revert HK;generalize World.setCells _ _ _ _ = W8;intro HK;have hb:=HK.out.2;replace O8:=y46h HK.out.1;replace OA:=y46h (OA.out.later hb);replace OP:=y46h (OP.out.later hb);replace X:=y46h (X.out.later hb);replace BEL:=y46h (BEL.out.trans (hb.mono BEL.out.size));clear HK hb) | (refine wpList_load_mid (by rfl) 43 _ (by rfl) w3.heap.size 0 (by rfl) (stA s fx sx ox kv).toList _ O8.out.range Tryz.underlying43 (by rfl) (by kernel_rfl) ?_) | (go_at_call 11;refine (zb8 s fx sx ox kv _ X.out HB.out).mono ?_;rw [HMS.out];rintro e wm ⟨rfl,hb⟩;replace OP:=y46h (OP.out.later hb);replace O8:=y46h (O8.out.later hb);replace X:=y46h (X.out.later hb);replace BEL:=y46h (BEL.out.trans (hb.mono BEL.out.size));clear hb) | fail)
     go_ret
     exact ⟨rfl,BEL.out⟩
   · have hG:=mayS_iff.1 hms
     have HMS:=y46h hms
     have hGU:=zjt hG d
     have CD:=fun a b c e w' (hx:StW w' s a b c e) (hd:DeW w' d gv)=>y46h (zsx s a b c e d gv w' hx hd hG HB.out h2)
     by_cases hE:doE s d = 0
     · have CA:=fun af asv ao ak bf bs bo bk w' hA hB=>y46h (zwk hG hE ▸ zfn (doS s d) s af asv ao ak bf bs bo bk w' hA hB)
       have hfl:=(zu4 hG hE).1
       have CMU:=fun a b c e w' (h:StW w' (doS s d) a b c e)=>y46h (mayS_iff.2 hGU ▸ zfd (doS s d) a b c e w' h (by have:=hGU.n;omega) (by have:=hGU.n;omega) (by have:=HB.out.ki;omega))
       have CST1:=fun a b c e w' (h:StW w' s a b c e)=>y46h (ze5 s a b c e id w' h (by have:=hG.n;omega) (by have:=hG.n;omega))
       have CST2:=fun a b c e w' (h:StW w' (doS s d) a b c e)=>y46h (ze5 (doS s d) a b c e id w' h (by have:=hGU.n;omega) (by have:=hGU.n;omega))
       have CPK:=fun w'=>y46h (zjf d.what w')
       have CR:=fun a b c e w' (h:StW w' (doS s d) a b c e)=>y46h (zey (doS s d) a b c e w' h (by have:=hGU.n;omega))
       have HOTH:=y46h (fun ha=>zsy hG hE (id:=id) ha)
       have HSELF:=y46h (fun hp=>zu5 hG hE hp)
       have HSS:=y46h (zn1 hG id)
       have HRL:=y46h (show (zhg (doS s d)).length ≤ 40 from Nat.le_trans (List.length_filter_le _ _) (by have:=hGU.n;omega))
       have e0:=hG.e.1
       have e1:=hG.e.2
       have c0':=hG.c.1
       have c1':=hG.c.2
       have t0':=hG.t.1
       have t1':=hG.t.2
       have hk3:(za0 d.what == 3) = true ∨ (za0 d.what == 3) = false:=by cases (za0 d.what == 3) <;> simp
       rw [hE] at CD
       generalize doS s d = U at *
       clear hms h2 hG hGU hfl hE
       go_enter Tryz.func6,Tryz.ntmps6
       go_upto_region 2 with (first | (go_at_call 7;refine (CU _).out.mono ?_;rintro e w1 ⟨rfl,hb⟩;replace OA:=y46h (OA.out.later hb);replace OP:=y46h (OP.out.later hb);replace BEL:=y46h (BEL.out.trans (hb.mono BEL.out.size));clear hb) | fail)
       replace OA:=y46h OA.out.drew
       replace OP:=y46h OP.out.drew
       replace BEL:=y46h BEL.out.drew
       refine wp_region_held_drew (S:=(fun w'=>(∀ o,w'.cell? ⟨w.heap.size,o,none⟩ = (siL s fv sv ov kv).toArray[o]?) ∧ ∀ o,w'.cell? ⟨w.heap.size + 1,o,none⟩ = (deL d gv).toArray[o]?)) (by kernel_rfl) (by exact ⟨OA.out.cell,OP.out.cell⟩) (fun hHeld=>?_)
       refine wpAnyH_take (i:=0) (v:=siV s fv sv ov kv) rfl (by kernel_rfl) (by kernel_rfl) (by kernel_rfl) (fun _ _ _ h=>h) (Or.inl ⟨by rfl,fun w5 h5=>zcd 33 _ rfl w.heap.size 0 (by rfl) (siL s fv sv ov kv) _ (fun j v hv=>by rw [Nat.zero_add,h5.1 j];simpa using hv) Tryz.underlying33 (by rfl) (by kernel_rfl)⟩) (by assumption) ?_
       try simp only [Act.put,y46a,y46b,y46c,y46d,y46e,y46f]
       refine wpAnyH_take (i:=2) (v:=?_) rfl (by kernel_rfl) (by kernel_rfl) (by kernel_rfl) (fun _ _ _ h=>h) (Or.inl ⟨by rfl,?_⟩) (by assumption) ?_
       rotate_left 1
       · (intro w hSw;(try dsimp only at hSw);go_simp;try with_reducible rfl)
       try simp only [Act.put,y46a,y46b,y46c,y46d,y46e,y46f]
       refine wpAnyH_take (i:=3) (v:=?_) rfl (by kernel_rfl) (by kernel_rfl) (by kernel_rfl) (fun _ _ _ h=>h) (Or.inl ⟨by rfl,?_⟩) (by assumption) ?_
       rotate_left 1
       · (intro w hSw;(try dsimp only at hSw);go_simp;try with_reducible rfl)
       try simp only [Act.put,y46a,y46b,y46c,y46d,y46e,y46f]
       refine wpAnyH_ready (rs:=[1]) (by kernel_rfl) (by simp) ?_
       refine AllReadyH.cons rfl (fun K hK=>?_) AllReadyH.nil
       try simp only [y46a,y46b,y46c]
       (go_simp;go_at_call 8;refine (CF _ (HS.out.later BEL.out)).out.mono ?_;rintro e w2 ⟨rfl,hb⟩;replace OA:=y46h (OA.out.later hb);replace OP:=y46h (OP.out.later hb);replace BEL:=y46h (BEL.out.trans (hb.mono BEL.out.size));clear hb)
       try go_wp2_with fail
       refine hK.out _ _ (by exact ⟨OA.out.cell,OP.out.cell⟩) (fun hHeld=>?_)
       clear hK K
       try simp only [Act.put,y46a,y46b,y46c,y46d,y46e,y46f]
       refine wpAnyH_ready (rs:=[4]) (by kernel_rfl) (by simp) ?_
       refine AllReadyH.cons rfl (fun K hK=>?_) AllReadyH.nil
       try simp only [y46a,y46b,y46c]
       (go_simp;go_at_call 9;refine (CM _ (HL.out.later BEL.out (Nat.le_refl _))).out.mono ?_;rintro e w2b ⟨rfl,hb⟩;replace OA:=y46h (OA.out.later hb);replace OP:=y46h (OP.out.later hb);replace BEL:=y46h (BEL.out.trans (hb.mono BEL.out.size));clear hb)
       try go_wp2_with fail
       refine hK.out _ _ (by exact ⟨OA.out.cell,OP.out.cell⟩) (fun hHeld=>?_)
       clear hK K
       try simp only [Act.put,y46a,y46b,y46c,y46d,y46e,y46f]
       refine wpAnyH_take (i:=5) (v:=?_) rfl (by kernel_rfl) (by kernel_rfl) (by kernel_rfl) (fun _ _ _ h=>h) (Or.inl ⟨by rfl,?_⟩) (by assumption) ?_
       rotate_left 1
       · (intro w hSw;(try dsimp only at hSw);go_simp;try with_reducible rfl)
       try simp only [Act.put,y46a,y46b,y46c,y46d,y46e,y46f]
       refine wpAnyH_take (i:=6) (v:=?_) rfl (by kernel_rfl) (by kernel_rfl) (by kernel_rfl) (fun _ _ _ h=>h) (Or.inl ⟨by rfl,?_⟩) (by assumption) ?_
       rotate_left 1
       · (intro w hSw;(try dsimp only at hSw);go_simp;try with_reducible rfl)
       try simp only [Act.put,y46a,y46b,y46c,y46d,y46e,y46f]
       refine wpAnyH_done (by kernel_rfl) ?_ _
       clear hHeld
       have hkv:kv.oneCell' = true:=by obtain ⟨_,_,e⟩:=HS.out.lk.val;rw [e];rfl
       go_upto_region 7 with (first | (refine wpList_load_mid (by rfl) 33 _ (by rfl) w.heap.size 0 (by rfl) (siL s fv sv ov kv) _ OA.out.range Tryz.underlying33 (by rfl) (by kernel_rfl) ?_) | (go_at_call 10;refine (CS _ (HS.out.later BEL.out)).out.mono ?_;rintro e w3 ⟨fx,sx,ox,rfl,hst,hb⟩;have g1:fx.oneCell' = true:=za2 hst.lf;have g2:sx.oneCell' = true:=(by obtain ⟨_,_,_,_,e,_⟩:=hst.ls;rw [e];rfl);have g3:ox.oneCell' = true:=(by obtain ⟨_,_,_,_,e,_⟩:=hst.lo;rw [e];rfl);have g4:kv.oneCell' = true:=(by obtain ⟨_,_,e⟩:=hst.lk.val;rw [e];rfl);unfold Value.oneCell' at g1 g2 g3 g4;replace OA:=y46h (OA.out.later hb);replace OP:=y46h (OP.out.later hb);replace BEL:=y46h (BEL.out.trans (hb.mono BEL.out.size));have X:=y46h hst;have O8:=y46h (Own.new w3 stZ.toArray 43);clear hst hb) | (refine wpList_store_mid (by rfl) 43 _ _ (by rfl) w3.heap.size 0 (stA s fx sx ox kv) (by rfl) (by rfl) (O8.out.there (by rfl)) (by kernel_rfl) (by simp [Value.oneCell',g1,g2,g3,g4]) ?_;have HK:=y46h (And.intro (O8.out.sets (stA s fx sx ox kv).toList (by rfl)) (zab (B:=w3.heap.size) (b:=w3.heap.size) (Nat.le_refl _) (stA s fx sx ox kv).toList 0 ((Below.refl _ _).alloc (Nat.le_refl _) (.cells stZ.toArray 43))));revert HK;generalize World.setCells _ _ _ _ = W8;intro HK;have hb:=HK.out.2;replace O8:=y46h HK.out.1;replace OA:=y46h (OA.out.later hb);replace OP:=y46h (OP.out.later hb);replace X:=y46h (X.out.later hb);replace BEL:=y46h (BEL.out.trans (hb.mono BEL.out.size));clear HK hb) | (refine wpList_load_mid (by rfl) 43 _ (by rfl) w3.heap.size 0 (by rfl) (stA s fx sx ox kv).toList _ O8.out.range Tryz.underlying43 (by rfl) (by kernel_rfl) ?_) | (go_at_call 11;refine (zb8 s fx sx ox kv _ X.out HB.out).mono ?_;rw [HMS.out];rintro e wm ⟨rfl,hb⟩;replace OP:=y46h (OP.out.later hb);replace O8:=y46h (O8.out.later hb);replace X:=y46h (X.out.later hb);replace BEL:=y46h (BEL.out.trans (hb.mono BEL.out.size));clear hb) | fail)
       go_upto_region 13 with (first | (refine wpList_load_mid (by rfl) 43 _ (by rfl) w3.heap.size 0 (by rfl) (stA s fx sx ox kv).toList _ O8.out.range Tryz.underlying43 (by rfl) (by kernel_rfl) ?_) | (refine wpList_load_mid (by rfl) 57 _ (by rfl) (w.heap.size + 1) 0 (by rfl) (deL d gv) _ OP.out.range Tryz.underlying57 (by rfl) (by kernel_rfl) ?_) | (go_at_call 18;refine (CD _ _ _ _ _ X.out (HD.out.later BEL.out)).out.mono ?_;rintro e w5 ⟨f5,s5,o5,k5,rfl,hst,hb⟩;have h1:f5.oneCell' = true:=za2 hst.lf;have h2:s5.oneCell' = true:=(by obtain ⟨_,_,_,_,e,_⟩:=hst.ls;rw [e];rfl);have h3:o5.oneCell' = true:=(by obtain ⟨_,_,_,_,e,_⟩:=hst.lo;rw [e];rfl);have h4:k5.oneCell' = true:=(by obtain ⟨_,_,e⟩:=hst.lk.val;rw [e];rfl);unfold Value.oneCell' at h1 h2 h3 h4;replace OP:=y46h (OP.out.later hb);replace O8:=y46h (O8.out.later hb);replace X:=y46h (X.out.later hb);replace BEL:=y46h (BEL.out.trans (hb.mono BEL.out.size));have T:=y46h hst;have O9:=y46h (Own.new w5 stZ.toArray 43);clear hst hb) | (refine wpList_store_mid (by rfl) 43 _ _ (by rfl) w5.heap.size 0 (stA U f5 s5 o5 k5) (by rfl) (by rfl) (O9.out.there (by rfl)) (by kernel_rfl) (by simp [Value.oneCell',h1,h2,h3,h4]) ?_;have HK:=y46h (And.intro (O9.out.sets (stA U f5 s5 o5 k5).toList (by rfl)) (zab (B:=w5.heap.size) (b:=w5.heap.size) (Nat.le_refl _) (stA U f5 s5 o5 k5).toList 0 ((Below.refl _ _).alloc (Nat.le_refl _) (.cells stZ.toArray 43))));revert HK;generalize World.setCells _ _ _ _ = W9;intro HK;have hb:=HK.out.2;replace O9:=y46h HK.out.1;replace OP:=y46h (OP.out.later hb);replace O8:=y46h (O8.out.later hb);replace X:=y46h (X.out.later hb);replace T:=y46h (T.out.later hb);replace BEL:=y46h (BEL.out.trans (hb.mono BEL.out.size));clear HK hb) | (refine wpList_load_mid (by rfl) 43 _ (by rfl) w5.heap.size 0 (by rfl) (stA U f5 s5 o5 k5).toList _ O9.out.range Tryz.underlying43 (by rfl) (by kernel_rfl) ?_) | (go_at_call 16;refine (CA _ _ _ _ _ _ _ _ _ T.out X.out).out.mono ?_;rintro e w8 ⟨rfl,hb⟩;replace OP:=y46h (OP.out.later hb);replace T:=y46h (T.out.later hb);replace X:=y46h (X.out.later hb);replace O9:=y46h (O9.out.later hb);replace O8:=y46h (O8.out.later hb);replace BEL:=y46h (BEL.out.trans (hb.mono BEL.out.size));clear hb) | (go_at_call 11;refine (CMU f5 s5 o5 k5 _ T.out).out.mono ?_;rintro e wn ⟨rfl,hb⟩;replace OP:=y46h (OP.out.later hb);replace T:=y46h (T.out.later hb);replace X:=y46h (X.out.later hb);replace O9:=y46h (O9.out.later hb);replace O8:=y46h (O8.out.later hb);replace BEL:=y46h (BEL.out.trans (hb.mono BEL.out.size));clear hb) | fail)
       have lP:=OP.out.cell
       have zP:=OP.out.lt
       go_wp2_with fail
       refine (CPK _).out.mono ?_
       rintro e wp ⟨rfl,rfl⟩
       clear lP zP
       go_wp2_with (first | (refine wpList_load_mid (by rfl) 43 _ (by rfl) w3.heap.size 0 (by rfl) (stA s fx sx ox kv).toList _ O8.out.range Tryz.underlying43 (by rfl) (by kernel_rfl) ?_) | fail)
       refine (CST1 _ _ _ _ _ X.out).out.mono ?_
       rintro e w10 ⟨rfl,hb⟩
       replace OP:=y46h (OP.out.later hb)
       replace O8:=y46h (O8.out.later hb)
       replace X:=y46h (X.out.later hb)
       replace O9:=y46h (O9.out.later hb)
       replace T:=y46h (T.out.later hb)
       replace BEL:=y46h (BEL.out.trans (hb.mono BEL.out.size))
       clear hb
       generalize hq1:zad s id = q1 at *
       obtain ⟨ya,ba⟩:=q1
       have O13:=y46h (Own.new w10 (iA ya) 69)
       replace OP:=y46h (OP.out.alloc (.cells (iA ya) 69))
       replace O8:=y46h (O8.out.alloc (.cells (iA ya) 69))
       replace X:=y46h (X.out.alloc (.cells (iA ya) 69))
       replace O9:=y46h (O9.out.alloc (.cells (iA ya) 69))
       replace T:=y46h (T.out.alloc (.cells (iA ya) 69))
       replace BEL:=y46h (BEL.out.alloc BEL.out.size (.cells (iA ya) 69))
       go_wp2_with (first | (refine wpList_load_mid (by rfl) 43 _ (by rfl) w5.heap.size 0 (by rfl) (stA U f5 s5 o5 k5).toList _ O9.out.range Tryz.underlying43 (by rfl) (by kernel_rfl) ?_) | fail)
       refine (CST2 _ _ _ _ _ T.out).out.mono ?_
       rintro e w11 ⟨rfl,hb⟩
       replace OP:=y46h (OP.out.later hb)
       replace O8:=y46h (O8.out.later hb)
       replace X:=y46h (X.out.later hb)
       replace O9:=y46h (O9.out.later hb)
       replace T:=y46h (T.out.later hb)
       replace O13:=y46h (O13.out.later hb)
       replace BEL:=y46h (BEL.out.trans (hb.mono BEL.out.size))
       clear hb
       generalize hq2:zad U id = q2 at *
       obtain ⟨yb,bb⟩:=q2
       have O15:=y46h (Own.new w11 (iA yb) 69)
       replace OP:=y46h (OP.out.alloc (.cells (iA yb) 69))
       replace O8:=y46h (O8.out.alloc (.cells (iA yb) 69))
       replace X:=y46h (X.out.alloc (.cells (iA yb) 69))
       replace O9:=y46h (O9.out.alloc (.cells (iA yb) 69))
       replace T:=y46h (T.out.alloc (.cells (iA yb) 69))
       replace O13:=y46h (O13.out.alloc (.cells (iA yb) 69))
       replace BEL:=y46h (BEL.out.alloc BEL.out.size (.cells (iA yb) 69))
       have lP:=OP.out.cell
       have zP:=OP.out.lt
       have lA:=O13.out.cell
       have zA:=O13.out.lt
       have lB:=O15.out.cell
       have zB:=O15.out.lt
       have lE:=O8.out.cell
       have zE:=O8.out.lt
       have lG:=O9.out.cell
       have zG:=O9.out.lt
       have HYS:=y46h (show yb.id.size ≤ maxLen ∧ yb.kd.size ≤ maxLen from by have:=zhw T.out id;rw [hq2] at this;exact this)
       rcases hk3 with gp | gp
       · have HO:=HOTH.out (.inl (by rw [beq_iff_eq] at gp;exact gp))
         rw [gp] at HO
         clear HOTH HSELF hq1 hq2
         obtain ⟨rfl,rfl⟩:yb = ya ∧ bb = ba:=(by have:=HO.1;cases this;exact ⟨rfl,rfl⟩)
         have he:=HO.2
         clear HO
         have he2:s.epoch + 1 ≤ 9223372036854775807:=by omega
         have he3:-9223372036854775808 ≤ s.epoch + 1:=by omega
         have RY0:=zcc (w11.alloc (.cells (iA yb) 69)) yb 69 HYS.out
         rw [show (w11.alloc (.cells (iA yb) 69)).heap.size = w11.heap.size + 1 by simp] at RY0
         have RY:=y46h (RY0.alloc (.cells (iA yb) 69))
         clear RY0
         have RY1:=zcc ((w11.alloc (.cells (iA yb) 69)).alloc (.cells (iA yb) 69)) yb 69 HYS.out
         rw [show ((w11.alloc (.cells (iA yb) 69)).alloc (.cells (iA yb) 69)).heap.size = w11.heap.size + 1 + 1 by simp] at RY1
         have RY2:=y46h RY1
         clear RY1
         have CSL:=fun va vb w' h1 h2=>y46h (show Calls Tryz.prog 26 #[va,vb] w' (fun e w''=>e = .returned (.bool true) ∧ Below w'.heap.size w' w'') from (show zbe zbx [yb] [yb] = true by simp [zbe,HSS.out]) ▸ zcr zbx zdx [yb] [yb] va vb w' h1 h2)
         replace O8:=y46h (O8.out.alloc (.cells (iA yb) 69))
         replace O9:=y46h (O9.out.alloc (.cells (iA yb) 69))
         replace BEL:=y46h (BEL.out.alloc BEL.out.size (.cells (iA yb) 69))
         replace O8:=y46h (O8.out.alloc (.cells (iA yb) 69))
         replace O9:=y46h (O9.out.alloc (.cells (iA yb) 69))
         replace BEL:=y46h (BEL.out.alloc BEL.out.size (.cells (iA yb) 69))
         go_wp2_with fail
         refine (CSL _ _ _ RY.out RY2.out).out.mono ?_
         rintro e w17 ⟨rfl,hb⟩
         clear lP zP lA zA lB zB lE zE lG zG
         replace O8:=y46h (O8.out.later hb)
         replace O9:=y46h (O9.out.later hb)
         replace BEL:=y46h (BEL.out.trans (hb.mono BEL.out.size))
         clear hb
         have lE:=O8.out.cell
         have zE:=O8.out.lt
         have lG:=O9.out.cell
         have zG:=O9.out.lt
         go_wp2_with fail
         go_ret
         exact ⟨zaa (by simp [he,gp]),BEL.out⟩
       · have hp3:za0 d.what ≠ 3:=by rw [beq_eq_false_iff_ne] at gp;exact gp
         by_cases hids:id = d.id
         · subst hids
           obtain ⟨y0,hb0,hM⟩:=HSELF.out hp3
           have E1:(yb,bb) = (y0,true):=hq2.symm.trans hM.st
           obtain ⟨e1,e2⟩:=Prod.mk.inj E1
           subst e2
           rw [← e1] at hM
           clear E1 e1
           have HM:=y46h hM
           clear hM HSELF HOTH hq1 hq2
           have HYS2:=y46h HYS.out.1
           have HCT:=y46h HM.out.ct
           have CG:=fun w' h=>y46h (zeo U.store d.id s5 w' h)
           have HIN:=y46h HM.out.inn
           generalize getI U.store d.id = q3 at *
           obtain ⟨y18,b18⟩:=q3
           have e18:b18 = hb0:=HIN.out
           subst e18
           go_wp2_with fail
           refine (CG _ T.out.ls).out.mono ?_
           rintro e w18 ⟨rfl,hb⟩
           clear lP zP lA zA lB zB lE zE lG zG
           replace OP:=y46h (OP.out.later hb)
           replace O8:=y46h (O8.out.later hb)
           replace X:=y46h (X.out.later hb)
           replace O9:=y46h (O9.out.later hb)
           replace T:=y46h (T.out.later hb)
           replace O13:=y46h (O13.out.later hb)
           replace O15:=y46h (O15.out.later hb)
           replace BEL:=y46h (BEL.out.trans (hb.mono BEL.out.size))
           clear hb
           replace OP:=y46h (OP.out.alloc (.cells (iA y18) 69))
           replace O8:=y46h (O8.out.alloc (.cells (iA y18) 69))
           replace X:=y46h (X.out.alloc (.cells (iA y18) 69))
           replace O9:=y46h (O9.out.alloc (.cells (iA y18) 69))
           replace T:=y46h (T.out.alloc (.cells (iA y18) 69))
           replace O13:=y46h (O13.out.alloc (.cells (iA y18) 69))
           replace O15:=y46h (O15.out.alloc (.cells (iA y18) 69))
           replace BEL:=y46h (BEL.out.alloc BEL.out.size (.cells (iA y18) 69))
           go_wp2_with (first | (refine wpList_load_mid (by rfl) 43 _ (by rfl) w5.heap.size 0 (by rfl) (stA U f5 s5 o5 k5).toList _ O9.out.range Tryz.underlying43 (by rfl) (by kernel_rfl) ?_) | fail)
           refine (CR _ _ _ _ _ T.out).out.mono ?_
           rintro e w21 ⟨vr,rfl,hrr,hb⟩
           replace OP:=y46h (OP.out.later hb)
           replace O8:=y46h (O8.out.later hb)
           replace X:=y46h (X.out.later hb)
           replace O9:=y46h (O9.out.later hb)
           replace T:=y46h (T.out.later hb)
           replace O13:=y46h (O13.out.later hb)
           replace O15:=y46h (O15.out.later hb)
           replace BEL:=y46h (BEL.out.trans (hb.mono BEL.out.size))
           clear hb
           have HRR:=y46h hrr
           have HSEEN:=y46h HM.out.seen
           generalize zhg U = RU at *
           obtain ⟨oR,cR,bR,ooR,rfl,hR⟩:=hrr
           have HR:=y46h hR
           clear hR
           generalize hnR:RU.length = nR at *
           have HNR:=y46h hnR
           clear hnR
           go_wp2_with fail
           go_loopw [20,22] (fun sv iv wr=>zxn RU d.id nR w21 sv iv wr) (fun _ iv _=>nR - (intOf iv).toNat)
           case atStart=>exact ⟨0,Nat.zero_le _,rfl,by simp,y46h rfl⟩
           case round =>
             obtain ⟨k,hk,rfl,rfl,hw⟩:=hrel
             have ew:=hw.out
             subst ew
             clear hw
             by_cases hlt:k < nR
             · obtain ⟨q,hq⟩:∃ q,RU[k]? = some q:=⟨_,List.getElem?_eq_getElem (by rw [HNR.out];exact hlt)⟩
               obtain ⟨rfl,hbR⟩:=HR.out.at0 (by rw [HNR.out];omega)
               obtain ⟨m0,m1,m2,m3,m4,m5,m6,m7⟩:=zaw (w:=w21) (fun j u hu=>HR.out.cell k q hq j u hu)
               have q2:(k:Int) + 1 ≤ 9223372036854775807:=by have:=HRL.out;omega
               have q0:(0:Int) ≤ (k:Int):=by omega
               have q1:(k:Int) < (nR:Int):=by omega
               have HT:=y46h (show (RU.take (k + 1)).any (fun i=>i.id.toList == d.id.toList) = ((RU.take k).any (fun i=>i.id.toList == d.id.toList) || (q.id.toList == d.id.toList)) from by rw [zdk hq,List.any_append];simp)
               clear hq
               generalize (RU.take k).any (fun i=>i.id.toList == d.id.toList) = bs at *
               cases bs
               · cases hs:(q.id.toList == d.id.toList)
                 · rw [hs] at HT
                   go_wp2_with fail
                   go_roundw
                   case rel=>exact ⟨k + 1,by omega,by go_num,by rw [HT.out];rfl,y46h rfl⟩
                   case measure=>simp [intOf];omega
                 · rw [hs] at HT
                   go_wp2_with fail
                   go_roundw
                   case rel=>exact ⟨k + 1,by omega,by go_num,by rw [HT.out];rfl,y46h rfl⟩
                   case measure=>simp [intOf];omega
               · go_wp2_with fail
                 go_roundw
                 case rel=>exact ⟨k + 1,by omega,by go_num,by rw [HT.out];simp,y46h rfl⟩
                 case measure=>simp [intOf];omega
             · rw [List.take_of_length_le (by rw [HNR.out];omega),HSEEN.out]
               have hyr:=HM.out.r
               have hyc:=HM.out.c
               have hyt:=HM.out.t
               have hyd:=HM.out.d
               obtain ⟨y1,y2,y3,y4,y5,y6,y7,y8,y9⟩:=yb
               change y2 = s.r at hyr
               change y3 = s.count + 1 at hyc
               change y4 = s.clock + 1 at hyt
               change y9 = (za0 d.what == 2) at hyd
               subst hyr hyc hyt
               have KB:=y46h (show Below w.heap.size w w21 from BEL.out)
               have HKN:=fun v w' h=>y46h (HM.out.kn ▸ zgb U.k d.id s.r (s.count + 1) v w' h HD.out.id)
               have HSP:=fun v v' w' h1 h2=>y46h (HM.out.f ▸ zht U.f s.f v v' w' h1 h2)
               have HEH:=fun v w' h=>y46h (HM.out.has ▸ zde (⟨y1,s.r,s.count + 1,s.clock + 1,y5,y6,y7,y8,y9⟩:Itm) U.f v w' h HYS2.out)
               have hct:=HCT.out
               have n1:s.count + 1 ≤ 9223372036854775807:=by omega
               have n2:-9223372036854775808 ≤ s.count + 1:=by omega
               have n3:s.clock + 1 ≤ 9223372036854775807:=by omega
               have n4:-9223372036854775808 ≤ s.clock + 1:=by omega
               generalize hp2:(za0 d.what == 2) = bp2 at *
               subst hyd
               have lB:=O15.out.cell
               have zB:=O15.out.lt
               have lE:=O8.out.cell
               have zE:=O8.out.lt
               have lG:=O9.out.cell
               have zG:=O9.out.lt
               go_wp2_with fail
               refine (HKN _ _ T.out.lk).out.mono ?_
               rintro e w26 ⟨rfl,hb⟩
               clear lB zB lE zE lG zG
               replace O8:=y46h (O8.out.later hb)
               replace X:=y46h (X.out.later hb)
               replace O9:=y46h (O9.out.later hb)
               replace T:=y46h (T.out.later hb)
               replace O15:=y46h (O15.out.later hb)
               replace BEL:=y46h (BEL.out.trans (hb.mono BEL.out.size))
               clear hb
               have lB:=O15.out.cell
               have zB:=O15.out.lt
               have lE:=O8.out.cell
               have zE:=O8.out.lt
               have lG:=O9.out.cell
               have zG:=O9.out.lt
               go_wp2_with fail
               refine (HSP _ _ _ T.out.lf X.out.lf).out.mono ?_
               rintro e w28 ⟨rfl,hb⟩
               clear lB zB lE zE lG zG
               replace O8:=y46h (O8.out.later hb)
               replace X:=y46h (X.out.later hb)
               replace O9:=y46h (O9.out.later hb)
               replace T:=y46h (T.out.later hb)
               replace O15:=y46h (O15.out.later hb)
               replace BEL:=y46h (BEL.out.trans (hb.mono BEL.out.size))
               clear hb
               have lB:=O15.out.cell
               have zB:=O15.out.lt
               have lE:=O8.out.cell
               have zE:=O8.out.lt
               have lG:=O9.out.cell
               have zG:=O9.out.lt
               go_wp2_with fail
               refine (HEH _ _ T.out.lf).out.mono ?_
               rintro e w29 ⟨rfl,hb⟩
               clear lB zB lE zE lG zG
               replace O8:=y46h (O8.out.later hb)
               replace O9:=y46h (O9.out.later hb)
               replace O15:=y46h (O15.out.later hb)
               replace BEL:=y46h (BEL.out.trans (hb.mono BEL.out.size))
               clear hb
               have lB:=O15.out.cell
               have zB:=O15.out.lt
               have lE:=O8.out.cell
               have zE:=O8.out.lt
               have lG:=O9.out.cell
               have zG:=O9.out.lt
               cases b18 <;> cases y9
               all_goals
                 go_wp2_with fail
                 go_ret
                 exact ⟨zaa (by simp [hct]),BEL.out⟩
         · have ht:(id.toList == d.id.toList) = false:=by rw [tl_ne];exact hids
           have HO:=HOTH.out (.inr hids)
           rw [gp] at HO
           clear HOTH HSELF hq1 hq2
           obtain ⟨rfl,rfl⟩:yb = ya ∧ bb = ba:=(by have:=HO.1;cases this;exact ⟨rfl,rfl⟩)
           have he:=HO.2
           clear HO
           have he2:s.epoch + 1 ≤ 9223372036854775807:=by omega
           have he3:-9223372036854775808 ≤ s.epoch + 1:=by omega
           have RY0:=zcc (w11.alloc (.cells (iA yb) 69)) yb 69 HYS.out
           rw [show (w11.alloc (.cells (iA yb) 69)).heap.size = w11.heap.size + 1 by simp] at RY0
           have RY:=y46h (RY0.alloc (.cells (iA yb) 69))
           clear RY0
           have RY1:=zcc ((w11.alloc (.cells (iA yb) 69)).alloc (.cells (iA yb) 69)) yb 69 HYS.out
           rw [show ((w11.alloc (.cells (iA yb) 69)).alloc (.cells (iA yb) 69)).heap.size = w11.heap.size + 1 + 1 by simp] at RY1
           have RY2:=y46h RY1
           clear RY1
           have CSL:=fun va vb w' h1 h2=>y46h (show Calls Tryz.prog 26 #[va,vb] w' (fun e w''=>e = .returned (.bool true) ∧ Below w'.heap.size w' w'') from (show zbe zbx [yb] [yb] = true by simp [zbe,HSS.out]) ▸ zcr zbx zdx [yb] [yb] va vb w' h1 h2)
           replace O8:=y46h (O8.out.alloc (.cells (iA yb) 69))
           replace O9:=y46h (O9.out.alloc (.cells (iA yb) 69))
           replace BEL:=y46h (BEL.out.alloc BEL.out.size (.cells (iA yb) 69))
           replace O8:=y46h (O8.out.alloc (.cells (iA yb) 69))
           replace O9:=y46h (O9.out.alloc (.cells (iA yb) 69))
           replace BEL:=y46h (BEL.out.alloc BEL.out.size (.cells (iA yb) 69))
           go_wp2_with fail
           refine (CSL _ _ _ RY.out RY2.out).out.mono ?_
           rintro e w17 ⟨rfl,hb⟩
           clear lP zP lA zA lB zB lE zE lG zG
           replace O8:=y46h (O8.out.later hb)
           replace O9:=y46h (O9.out.later hb)
           replace BEL:=y46h (BEL.out.trans (hb.mono BEL.out.size))
           clear hb
           have lE:=O8.out.cell
           have zE:=O8.out.lt
           have lG:=O9.out.cell
           have zG:=O9.out.lt
           go_wp2_with fail
           go_ret
           exact ⟨zaa (by simp [he,gp]),BEL.out⟩
     · have CA:=fun af asv ao ak bf bs bo bk w' hA hB=>y46h (zvu hG (zmu hG.f) ▸ zfn s s af asv ao ak bf bs bo bk w' hA hB)
       have CMU:=fun a b c e w' (h:StW w' s a b c e)=>y46h (hms ▸ zb8 s a b c e w' h HB.out)
       rw [zwi hE] at CD
       have g1:(doE s d == 0) = false:=by rw [beq_eq_false_iff_ne];exact hE
       have g2:(doE s d != 0) = true:=by rw [bne,g1];rfl
       generalize doE s d = E at *
       clear hms h2 hG hGU
       go_enter Tryz.func6,Tryz.ntmps6
       go_upto_region 2 with (first | (go_at_call 7;refine (CU _).out.mono ?_;rintro e w1 ⟨rfl,hb⟩;replace OA:=y46h (OA.out.later hb);replace OP:=y46h (OP.out.later hb);replace BEL:=y46h (BEL.out.trans (hb.mono BEL.out.size));clear hb) | fail)
       replace OA:=y46h OA.out.drew
       replace OP:=y46h OP.out.drew
       replace BEL:=y46h BEL.out.drew
       refine wp_region_held_drew (S:=(fun w'=>(∀ o,w'.cell? ⟨w.heap.size,o,none⟩ = (siL s fv sv ov kv).toArray[o]?) ∧ ∀ o,w'.cell? ⟨w.heap.size + 1,o,none⟩ = (deL d gv).toArray[o]?)) (by kernel_rfl) (by exact ⟨OA.out.cell,OP.out.cell⟩) (fun hHeld=>?_)
       refine wpAnyH_take (i:=0) (v:=siV s fv sv ov kv) rfl (by kernel_rfl) (by kernel_rfl) (by kernel_rfl) (fun _ _ _ h=>h) (Or.inl ⟨by rfl,fun w5 h5=>zcd 33 _ rfl w.heap.size 0 (by rfl) (siL s fv sv ov kv) _ (fun j v hv=>by rw [Nat.zero_add,h5.1 j];simpa using hv) Tryz.underlying33 (by rfl) (by kernel_rfl)⟩) (by assumption) ?_
       try simp only [Act.put,y46a,y46b,y46c,y46d,y46e,y46f]
       refine wpAnyH_take (i:=2) (v:=?_) rfl (by kernel_rfl) (by kernel_rfl) (by kernel_rfl) (fun _ _ _ h=>h) (Or.inl ⟨by rfl,?_⟩) (by assumption) ?_
       rotate_left 1
       · (intro w hSw;(try dsimp only at hSw);go_simp;try with_reducible rfl)
       try simp only [Act.put,y46a,y46b,y46c,y46d,y46e,y46f]
       refine wpAnyH_take (i:=3) (v:=?_) rfl (by kernel_rfl) (by kernel_rfl) (by kernel_rfl) (fun _ _ _ h=>h) (Or.inl ⟨by rfl,?_⟩) (by assumption) ?_
       rotate_left 1
       · (intro w hSw;(try dsimp only at hSw);go_simp;try with_reducible rfl)
       try simp only [Act.put,y46a,y46b,y46c,y46d,y46e,y46f]
       refine wpAnyH_ready (rs:=[1]) (by kernel_rfl) (by simp) ?_
       refine AllReadyH.cons rfl (fun K hK=>?_) AllReadyH.nil
       try simp only [y46a,y46b,y46c]
       (go_simp;go_at_call 8;refine (CF _ (HS.out.later BEL.out)).out.mono ?_;rintro e w2 ⟨rfl,hb⟩;replace OA:=y46h (OA.out.later hb);replace OP:=y46h (OP.out.later hb);replace BEL:=y46h (BEL.out.trans (hb.mono BEL.out.size));clear hb)
       try go_wp2_with fail
       refine hK.out _ _ (by exact ⟨OA.out.cell,OP.out.cell⟩) (fun hHeld=>?_)
       clear hK K
       try simp only [Act.put,y46a,y46b,y46c,y46d,y46e,y46f]
       refine wpAnyH_ready (rs:=[4]) (by kernel_rfl) (by simp) ?_
       refine AllReadyH.cons rfl (fun K hK=>?_) AllReadyH.nil
       try simp only [y46a,y46b,y46c]
       (go_simp;go_at_call 9;refine (CM _ (HL.out.later BEL.out (Nat.le_refl _))).out.mono ?_;rintro e w2b ⟨rfl,hb⟩;replace OA:=y46h (OA.out.later hb);replace OP:=y46h (OP.out.later hb);replace BEL:=y46h (BEL.out.trans (hb.mono BEL.out.size));clear hb)
       try go_wp2_with fail
       refine hK.out _ _ (by exact ⟨OA.out.cell,OP.out.cell⟩) (fun hHeld=>?_)
       clear hK K
       try simp only [Act.put,y46a,y46b,y46c,y46d,y46e,y46f]
       refine wpAnyH_take (i:=5) (v:=?_) rfl (by kernel_rfl) (by kernel_rfl) (by kernel_rfl) (fun _ _ _ h=>h) (Or.inl ⟨by rfl,?_⟩) (by assumption) ?_
       rotate_left 1
       · (intro w hSw;(try dsimp only at hSw);go_simp;try with_reducible rfl)
       try simp only [Act.put,y46a,y46b,y46c,y46d,y46e,y46f]
       refine wpAnyH_take (i:=6) (v:=?_) rfl (by kernel_rfl) (by kernel_rfl) (by kernel_rfl) (fun _ _ _ h=>h) (Or.inl ⟨by rfl,?_⟩) (by assumption) ?_
       rotate_left 1
       · (intro w hSw;(try dsimp only at hSw);go_simp;try with_reducible rfl)
       try simp only [Act.put,y46a,y46b,y46c,y46d,y46e,y46f]
       refine wpAnyH_done (by kernel_rfl) ?_ _
       clear hHeld
       have hkv:kv.oneCell' = true:=by obtain ⟨_,_,e⟩:=HS.out.lk.val;rw [e];rfl
       go_upto_region 7 with (first | (refine wpList_load_mid (by rfl) 33 _ (by rfl) w.heap.size 0 (by rfl) (siL s fv sv ov kv) _ OA.out.range Tryz.underlying33 (by rfl) (by kernel_rfl) ?_) | (go_at_call 10;refine (CS _ (HS.out.later BEL.out)).out.mono ?_;rintro e w3 ⟨fx,sx,ox,rfl,hst,hb⟩;have g1:fx.oneCell' = true:=za2 hst.lf;have g2:sx.oneCell' = true:=(by obtain ⟨_,_,_,_,e,_⟩:=hst.ls;rw [e];rfl);have g3:ox.oneCell' = true:=(by obtain ⟨_,_,_,_,e,_⟩:=hst.lo;rw [e];rfl);have g4:kv.oneCell' = true:=(by obtain ⟨_,_,e⟩:=hst.lk.val;rw [e];rfl);unfold Value.oneCell' at g1 g2 g3 g4;replace OA:=y46h (OA.out.later hb);replace OP:=y46h (OP.out.later hb);replace BEL:=y46h (BEL.out.trans (hb.mono BEL.out.size));have X:=y46h hst;have O8:=y46h (Own.new w3 stZ.toArray 43);clear hst hb) | (refine wpList_store_mid (by rfl) 43 _ _ (by rfl) w3.heap.size 0 (stA s fx sx ox kv) (by rfl) (by rfl) (O8.out.there (by rfl)) (by kernel_rfl) (by simp [Value.oneCell',g1,g2,g3,g4]) ?_;have HK:=y46h (And.intro (O8.out.sets (stA s fx sx ox kv).toList (by rfl)) (zab (B:=w3.heap.size) (b:=w3.heap.size) (Nat.le_refl _) (stA s fx sx ox kv).toList 0 ((Below.refl _ _).alloc (Nat.le_refl _) (.cells stZ.toArray 43))));revert HK;generalize World.setCells _ _ _ _ = W8;intro HK;have hb:=HK.out.2;replace O8:=y46h HK.out.1;replace OA:=y46h (OA.out.later hb);replace OP:=y46h (OP.out.later hb);replace X:=y46h (X.out.later hb);replace BEL:=y46h (BEL.out.trans (hb.mono BEL.out.size));clear HK hb) | (refine wpList_load_mid (by rfl) 43 _ (by rfl) w3.heap.size 0 (by rfl) (stA s fx sx ox kv).toList _ O8.out.range Tryz.underlying43 (by rfl) (by kernel_rfl) ?_) | (go_at_call 11;refine (zb8 s fx sx ox kv _ X.out HB.out).mono ?_;rw [HMS.out];rintro e wm ⟨rfl,hb⟩;replace OP:=y46h (OP.out.later hb);replace O8:=y46h (O8.out.later hb);replace X:=y46h (X.out.later hb);replace BEL:=y46h (BEL.out.trans (hb.mono BEL.out.size));clear hb) | fail)
       go_wp2_with (first | (refine wpList_load_mid (by rfl) 43 _ (by rfl) w3.heap.size 0 (by rfl) (stA s fx sx ox kv).toList _ O8.out.range Tryz.underlying43 (by rfl) (by kernel_rfl) ?_) | (refine wpList_load_mid (by rfl) 57 _ (by rfl) (w.heap.size + 1) 0 (by rfl) (deL d gv) _ OP.out.range Tryz.underlying57 (by rfl) (by kernel_rfl) ?_) | (go_at_call 18;refine (CD _ _ _ _ _ X.out (HD.out.later BEL.out)).out.mono ?_;rintro e w5 ⟨f5,s5,o5,k5,rfl,hst,hb⟩;have h1:f5.oneCell' = true:=za2 hst.lf;have h2:s5.oneCell' = true:=(by obtain ⟨_,_,_,_,e,_⟩:=hst.ls;rw [e];rfl);have h3:o5.oneCell' = true:=(by obtain ⟨_,_,_,_,e,_⟩:=hst.lo;rw [e];rfl);have h4:k5.oneCell' = true:=(by obtain ⟨_,_,e⟩:=hst.lk.val;rw [e];rfl);unfold Value.oneCell' at h1 h2 h3 h4;replace OP:=y46h (OP.out.later hb);replace O8:=y46h (O8.out.later hb);replace X:=y46h (X.out.later hb);replace BEL:=y46h (BEL.out.trans (hb.mono BEL.out.size));have T:=y46h hst;have O9:=y46h (Own.new w5 stZ.toArray 43);clear hst hb) | (refine wpList_store_mid (by rfl) 43 _ _ (by rfl) w5.heap.size 0 (stA s f5 s5 o5 k5) (by rfl) (by rfl) (O9.out.there (by rfl)) (by kernel_rfl) (by simp [Value.oneCell',h1,h2,h3,h4]) ?_;have HK:=y46h (And.intro (O9.out.sets (stA s f5 s5 o5 k5).toList (by rfl)) (zab (B:=w5.heap.size) (b:=w5.heap.size) (Nat.le_refl _) (stA s f5 s5 o5 k5).toList 0 ((Below.refl _ _).alloc (Nat.le_refl _) (.cells stZ.toArray 43))));revert HK;generalize World.setCells _ _ _ _ = W9;intro HK;have hb:=HK.out.2;replace O9:=y46h HK.out.1;replace OP:=y46h (OP.out.later hb);replace O8:=y46h (O8.out.later hb);replace X:=y46h (X.out.later hb);replace T:=y46h (T.out.later hb);replace BEL:=y46h (BEL.out.trans (hb.mono BEL.out.size));clear HK hb) | (refine wpList_load_mid (by rfl) 43 _ (by rfl) w5.heap.size 0 (by rfl) (stA s f5 s5 o5 k5).toList _ O9.out.range Tryz.underlying43 (by rfl) (by kernel_rfl) ?_) | (go_at_call 16;refine (CA _ _ _ _ _ _ _ _ _ T.out X.out).out.mono ?_;rintro e w8 ⟨rfl,hb⟩;replace OP:=y46h (OP.out.later hb);replace T:=y46h (T.out.later hb);replace X:=y46h (X.out.later hb);replace O9:=y46h (O9.out.later hb);replace O8:=y46h (O8.out.later hb);replace BEL:=y46h (BEL.out.trans (hb.mono BEL.out.size));clear hb) | (go_at_call 11;refine (CMU f5 s5 o5 k5 _ T.out).out.mono ?_;rintro e wn ⟨rfl,hb⟩;replace OP:=y46h (OP.out.later hb);replace T:=y46h (T.out.later hb);replace X:=y46h (X.out.later hb);replace O9:=y46h (O9.out.later hb);replace O8:=y46h (O8.out.later hb);replace BEL:=y46h (BEL.out.trans (hb.mono BEL.out.size));clear hb) | fail)
       go_ret
       exact ⟨rfl,BEL.out⟩
end Go.Proofs.YthnllikalobmeaaGreat
