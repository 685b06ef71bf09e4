/- Joined: LocalDoes. -/
import Derived.Test.YthnllikalobmeaaGreatJ45
import Derived.Test.YthnllikalobmeaaGreatJ49
namespace Go.Proofs.YthnllikalobmeaaGreat
set_option linter.unusedVariables false
set_option linter.unusedSimpArgs false
set_option maxRecDepth 100000
set_option maxHeartbeats 8000000
open Go.RowKit
abbrev y50a := @List.getElem_toArray
abbrev y50b := @List.getElem_cons_zero
abbrev y50c := @List.getElem_cons_succ
abbrev y50d := @List.setIfInBounds_toArray
abbrev y50e := @List.set_cons_zero
abbrev y50f := @List.set_cons_succ
theorem y50h {p:Prop} (h:p):Hid p:=Lib.hid h
theorem zs1 (U:St) (a b c e:Value) (w:World) (h:StW w U a b c e) (hl:U.store.length ≤ 1000) :
   Calls Tryz.prog 22 #[stV U a b c e] w fun q w'=>∃ v',q = .returned v' ∧ Row 8 ic w' (zeh U) v' ∧ Below w.heap.size w w' :=
 (znk U a b c e w h (by omega)).mono fun _ _ ⟨v',he,ho,hb⟩=>⟨v',he,ho.row (fun i hi=>h.ls.oks i (List.mem_filter.1 hi).1),hb⟩
theorem zvd {U:St} (h:Good U):zbt zcv (zeh U) (zeh U) = true :=
 ze9 fun i hi=>by
   have:=(mayLB_iff.1 h.st).1 i (List.mem_filter.1 hi).1
   exact zhb (zd7 this).1 (zd7 this).2
theorem zkv (s:St) (fv sv ov kv:Value) (d:De) (gv:Value) (w:World) (hS:SiW w s fv sv ov kv) (hD:DeW w d gv) :
   Calls Tryz.prog 4 #[siV s fv sv ov kv,deV d gv] w fun e w'=>e = .returned (.bool true) ∧ Below w.heap.size w w':=by
 have OA:=y50h ((Own.new w (siL s fv sv ov kv).toArray 33).alloc (.cells (deL d gv).toArray 57))
 have OP:=y50h (Own.newAt (w.alloc (.cells (siL s fv sv ov kv).toArray 33)) (deL d gv).toArray 57 (b:=w.heap.size + 1) (by simp))
 have BEL:=y50h (((Below.refl w.heap.size w).alloc (Nat.le_refl _) (.cells (siL s fv sv ov kv).toArray 33)).alloc (by simp) (.cells (deL d gv).toArray 57))
 have HS:=y50h hS
 have HD:=y50h hD
 have HL:=y50h hD.lf
 clear hS hD
 have CU:=fun w'=>y50h (zm0 w')
 have CF:=fun w' h=>y50h (zi9 s fv sv ov kv w' h)
 have CM:=fun w' h=>y50h (zgc d.f gv w' h)
 have hff:zcc s = 0 ∨ zcc s = 1:=by
   unfold zcc zih zc1
   split
   · exact .inl rfl
   · split <;> split <;> simp
 by_cases hz:zcc s = 0 ∨ 60 < d.f.size
 · have hways:(zcc s = 0 ∧ (if d.f.size ≤ 60 then (1:Int) else 0) = 0) ∨ (zcc s = 0 ∧ (if d.f.size ≤ 60 then (1:Int) else 0) = 1) ∨ (zcc s = 1 ∧ (if d.f.size ≤ 60 then (1:Int) else 0) = 0):=by
     by_cases h6:d.f.size ≤ 60
     · rw [if_pos h6]
       rcases hz with h | h
       · exact .inr (.inl ⟨h,rfl⟩)
       · omega
     · rw [if_neg h6]
       rcases hff with h | h
       · exact .inl ⟨h,rfl⟩
       · exact .inr (.inr ⟨h,rfl⟩)
   clear hz hff
   rcases hways with ⟨h1,h2⟩ | ⟨h1,h2⟩ | ⟨h1,h2⟩
   all_goals
     rw [h1] at CF
     rw [h2] at CM
     clear h1 h2
     go_enter Tryz.func4,Tryz.ntmps4
     go_upto_region 2 with (first | (go_at_call 7;refine (CU _).out.mono ?_;rintro e w1 ⟨rfl,hb⟩;replace OA:=y50h (OA.out.later hb);replace OP:=y50h (OP.out.later hb);replace BEL:=y50h (BEL.out.trans (hb.mono BEL.out.size));clear hb) | fail)
     replace OA:=y50h OA.out.drew
     replace OP:=y50h OP.out.drew
     replace BEL:=y50h BEL.out.drew
     refine wp_region_held_drew (S:=(fun w'=>(∀ o,w'.cell? ⟨w.heap.size,o,none⟩ = (siL s fv sv ov kv).toArray[o]?) ∧ ∀ o,w'.cell? ⟨w.heap.size + 1,o,none⟩ = (deL d gv).toArray[o]?)) (by kernel_rfl) (by exact ⟨OA.out.cell,OP.out.cell⟩) (fun hHeld=>?_)
     refine wpAnyH_take (i:=0) (v:=siV s fv sv ov kv) rfl (by kernel_rfl) (by kernel_rfl) (by kernel_rfl) (fun _ _ _ h=>h) (Or.inl ⟨by rfl,fun w5 h5=>zbc 33 _ rfl w.heap.size 0 (by rfl) (siL s fv sv ov kv) _ (fun j v hv=>by rw [Nat.zero_add,h5.1 j];simpa using hv) Tryz.underlying33 (by rfl) (by kernel_rfl)⟩) (by assumption) ?_
     try simp only [Act.put,y50a,y50b,y50c,y50d,y50e,y50f]
     refine wpAnyH_take (i:=2) (v:=?_) rfl (by kernel_rfl) (by kernel_rfl) (by kernel_rfl) (fun _ _ _ h=>h) (Or.inl ⟨by rfl,?_⟩) (by assumption) ?_
     rotate_left 1
     · (intro w hSw;(try dsimp only at hSw);go_simp;try with_reducible rfl)
     try simp only [Act.put,y50a,y50b,y50c,y50d,y50e,y50f]
     refine wpAnyH_take (i:=3) (v:=?_) rfl (by kernel_rfl) (by kernel_rfl) (by kernel_rfl) (fun _ _ _ h=>h) (Or.inl ⟨by rfl,?_⟩) (by assumption) ?_
     rotate_left 1
     · (intro w hSw;(try dsimp only at hSw);go_simp;try with_reducible rfl)
     try simp only [Act.put,y50a,y50b,y50c,y50d,y50e,y50f]
     refine wpAnyH_ready (rs:=[1]) (by kernel_rfl) (by simp) ?_
     refine AllReadyH.cons rfl (fun K hK=>?_) AllReadyH.nil
     try simp only [y50a,y50b,y50c]
     (go_simp;go_at_call 8;refine (CF _ (HS.out.later BEL.out)).out.mono ?_;rintro e w2 ⟨rfl,hb⟩;replace OA:=y50h (OA.out.later hb);replace OP:=y50h (OP.out.later hb);replace BEL:=y50h (BEL.out.trans (hb.mono BEL.out.size));clear hb)
     try go_wp2_with fail
     refine hK.out _ _ (by exact ⟨OA.out.cell,OP.out.cell⟩) (fun hHeld=>?_)
     clear hK K
     try simp only [Act.put,y50a,y50b,y50c,y50d,y50e,y50f]
     refine wpAnyH_ready (rs:=[4]) (by kernel_rfl) (by simp) ?_
     refine AllReadyH.cons rfl (fun K hK=>?_) AllReadyH.nil
     try simp only [y50a,y50b,y50c]
     (go_simp;go_at_call 9;refine (CM _ (HL.out.later BEL.out (Nat.le_refl _))).out.mono ?_;rintro e w2b ⟨rfl,hb⟩;replace OA:=y50h (OA.out.later hb);replace OP:=y50h (OP.out.later hb);replace BEL:=y50h (BEL.out.trans (hb.mono BEL.out.size));clear hb)
     try go_wp2_with fail
     refine hK.out _ _ (by exact ⟨OA.out.cell,OP.out.cell⟩) (fun hHeld=>?_)
     clear hK K
     try simp only [Act.put,y50a,y50b,y50c,y50d,y50e,y50f]
     refine wpAnyH_take (i:=5) (v:=?_) rfl (by kernel_rfl) (by kernel_rfl) (by kernel_rfl) (fun _ _ _ h=>h) (Or.inl ⟨by rfl,?_⟩) (by assumption) ?_
     rotate_left 1
     · (intro w hSw;(try dsimp only at hSw);go_simp;try with_reducible rfl)
     try simp only [Act.put,y50a,y50b,y50c,y50d,y50e,y50f]
     refine wpAnyH_take (i:=6) (v:=?_) rfl (by kernel_rfl) (by kernel_rfl) (by kernel_rfl) (fun _ _ _ h=>h) (Or.inl ⟨by rfl,?_⟩) (by assumption) ?_
     rotate_left 1
     · (intro w hSw;(try dsimp only at hSw);go_simp;try with_reducible rfl)
     try simp only [Act.put,y50a,y50b,y50c,y50d,y50e,y50f]
     refine wpAnyH_done (by kernel_rfl) ?_ _
     clear hHeld
     go_wp2_with fail
     go_ret
     exact ⟨rfl,BEL.out⟩
 · have h1:zcc s = 1:=by rcases hff with h | h;exact absurd (.inl h) hz;exact h
   have h2:d.f.size ≤ 60:=by omega
   have HB:=y50h (zq9 h1)
   rw [h1] at CF
   rw [if_pos h2] at CM
   clear hz hff h1
   have CS:=fun w' h=>y50h (zjh s fv sv ov kv w' h HB.out.f (Nat.le_trans HB.out.ls (by decide)) (Nat.le_trans HB.out.lo (by decide)))
   cases hms:mayS s
   · have HMS:=y50h hms
     clear hms h2
     go_enter Tryz.func4,Tryz.ntmps4
     go_upto_region 2 with (first | (go_at_call 7;refine (CU _).out.mono ?_;rintro e w1 ⟨rfl,hb⟩;replace OA:=y50h (OA.out.later hb);replace OP:=y50h (OP.out.later hb);replace BEL:=y50h (BEL.out.trans (hb.mono BEL.out.size));clear hb) | fail)
     replace OA:=y50h OA.out.drew
     replace OP:=y50h OP.out.drew
     replace BEL:=y50h BEL.out.drew
     refine wp_region_held_drew (S:=(fun w'=>(∀ o,w'.cell? ⟨w.heap.size,o,none⟩ = (siL s fv sv ov kv).toArray[o]?) ∧ ∀ o,w'.cell? ⟨w.heap.size + 1,o,none⟩ = (deL d gv).toArray[o]?)) (by kernel_rfl) (by exact ⟨OA.out.cell,OP.out.cell⟩) (fun hHeld=>?_)
     refine wpAnyH_take (i:=0) (v:=siV s fv sv ov kv) rfl (by kernel_rfl) (by kernel_rfl) (by kernel_rfl) (fun _ _ _ h=>h) (Or.inl ⟨by rfl,fun w5 h5=>zbc 33 _ rfl w.heap.size 0 (by rfl) (siL s fv sv ov kv) _ (fun j v hv=>by rw [Nat.zero_add,h5.1 j];simpa using hv) Tryz.underlying33 (by rfl) (by kernel_rfl)⟩) (by assumption) ?_
     try simp only [Act.put,y50a,y50b,y50c,y50d,y50e,y50f]
     refine wpAnyH_take (i:=2) (v:=?_) rfl (by kernel_rfl) (by kernel_rfl) (by kernel_rfl) (fun _ _ _ h=>h) (Or.inl ⟨by rfl,?_⟩) (by assumption) ?_
     rotate_left 1
     · (intro w hSw;(try dsimp only at hSw);go_simp;try with_reducible rfl)
     try simp only [Act.put,y50a,y50b,y50c,y50d,y50e,y50f]
     refine wpAnyH_take (i:=3) (v:=?_) rfl (by kernel_rfl) (by kernel_rfl) (by kernel_rfl) (fun _ _ _ h=>h) (Or.inl ⟨by rfl,?_⟩) (by assumption) ?_
     rotate_left 1
     · (intro w hSw;(try dsimp only at hSw);go_simp;try with_reducible rfl)
     try simp only [Act.put,y50a,y50b,y50c,y50d,y50e,y50f]
     refine wpAnyH_ready (rs:=[1]) (by kernel_rfl) (by simp) ?_
     refine AllReadyH.cons rfl (fun K hK=>?_) AllReadyH.nil
     try simp only [y50a,y50b,y50c]
     (go_simp;go_at_call 8;refine (CF _ (HS.out.later BEL.out)).out.mono ?_;rintro e w2 ⟨rfl,hb⟩;replace OA:=y50h (OA.out.later hb);replace OP:=y50h (OP.out.later hb);replace BEL:=y50h (BEL.out.trans (hb.mono BEL.out.size));clear hb)
     try go_wp2_with fail
     refine hK.out _ _ (by exact ⟨OA.out.cell,OP.out.cell⟩) (fun hHeld=>?_)
     clear hK K
     try simp only [Act.put,y50a,y50b,y50c,y50d,y50e,y50f]
     refine wpAnyH_ready (rs:=[4]) (by kernel_rfl) (by simp) ?_
     refine AllReadyH.cons rfl (fun K hK=>?_) AllReadyH.nil
     try simp only [y50a,y50b,y50c]
     (go_simp;go_at_call 9;refine (CM _ (HL.out.later BEL.out (Nat.le_refl _))).out.mono ?_;rintro e w2b ⟨rfl,hb⟩;replace OA:=y50h (OA.out.later hb);replace OP:=y50h (OP.out.later hb);replace BEL:=y50h (BEL.out.trans (hb.mono BEL.out.size));clear hb)
     try go_wp2_with fail
     refine hK.out _ _ (by exact ⟨OA.out.cell,OP.out.cell⟩) (fun hHeld=>?_)
     clear hK K
     try simp only [Act.put,y50a,y50b,y50c,y50d,y50e,y50f]
     refine wpAnyH_take (i:=5) (v:=?_) rfl (by kernel_rfl) (by kernel_rfl) (by kernel_rfl) (fun _ _ _ h=>h) (Or.inl ⟨by rfl,?_⟩) (by assumption) ?_
     rotate_left 1
     · (intro w hSw;(try dsimp only at hSw);go_simp;try with_reducible rfl)
     try simp only [Act.put,y50a,y50b,y50c,y50d,y50e,y50f]
     refine wpAnyH_take (i:=6) (v:=?_) rfl (by kernel_rfl) (by kernel_rfl) (by kernel_rfl) (fun _ _ _ h=>h) (Or.inl ⟨by rfl,?_⟩) (by assumption) ?_
     rotate_left 1
     · (intro w hSw;(try dsimp only at hSw);go_simp;try with_reducible rfl)
     try simp only [Act.put,y50a,y50b,y50c,y50d,y50e,y50f]
     refine wpAnyH_done (by kernel_rfl) ?_ _
     clear hHeld
     have hkv:kv.oneCell' = true:=by obtain ⟨_,_,e⟩:=HS.out.lk.val;rw [e];rfl
     go_wp2_with (first | (refine wpList_load_mid (by rfl) 33 _ (by rfl) w.heap.size 0 (by rfl) (siL s fv sv ov kv) _ OA.out.range Tryz.underlying33 (by rfl) (by kernel_rfl) ?_) | (go_at_call 10;refine (CS _ (HS.out.later BEL.out)).out.mono ?_;rintro e w3 ⟨fx,sx,ox,rfl,hst,hb⟩;have g1:fx.oneCell' = true:=zar hst.lf;have g2:sx.oneCell' = true:=(by obtain ⟨_,_,_,_,e,_⟩:=hst.ls;rw [e];rfl);have g3:ox.oneCell' = true:=(by obtain ⟨_,_,_,_,e,_⟩:=hst.lo;rw [e];rfl);have g4:kv.oneCell' = true:=(by obtain ⟨_,_,e⟩:=hst.lk.val;rw [e];rfl);unfold Value.oneCell' at g1 g2 g3 g4;replace OA:=y50h (OA.out.later hb);replace OP:=y50h (OP.out.later hb);replace BEL:=y50h (BEL.out.trans (hb.mono BEL.out.size));have X:=y50h hst;have O8:=y50h (Own.new w3 stZ.toArray 43);clear hst hb) | (refine wpList_store_mid (by rfl) 43 _ _ (by rfl) w3.heap.size 0 (stA s fx sx ox kv) (by rfl) (by rfl) (O8.out.there (by rfl)) (by kernel_rfl) (by simp [Value.oneCell',g1,g2,g3,g4]) ?_;have HK:=y50h (And.intro (O8.out.sets (stA s fx sx ox kv).toList (by rfl)) (zab (B:=w3.heap.size) (b:=w3.heap.size) (Nat.le_refl _) (stA s fx sx ox kv).toList 0 ((Below.refl _ _).alloc (Nat.le_refl _) (.cells stZ.toArray 43))));revert HK;generalize World.setCells _ _ _ _ = W8;intro HK;have hb:=HK.out.2;replace O8:=y50h HK.out.1;replace OA:=y50h (OA.out.later hb);replace OP:=y50h (OP.out.later hb);replace X:=y50h (X.out.later hb);replace BEL:=y50h (BEL.out.trans (hb.mono BEL.out.size));clear HK hb) | (refine wpList_load_mid (by rfl) 43 _ (by rfl) w3.heap.size 0 (by rfl) (stA s fx sx ox kv).toList _ O8.out.range Tryz.underlying43 (by rfl) (by kernel_rfl) ?_) | (go_at_call 12;refine (zeq s fx sx ox kv _ X.out HB.out).mono ?_;rw [HMS.out];rintro e wm ⟨rfl,hb⟩;replace OP:=y50h (OP.out.later hb);replace O8:=y50h (O8.out.later hb);replace X:=y50h (X.out.later hb);replace BEL:=y50h (BEL.out.trans (hb.mono BEL.out.size));clear hb) | fail)
     go_ret
     exact ⟨rfl,BEL.out⟩
   · have hG:=mayS_iff.1 hms
     have HMS:=y50h hms
     have hGU:=zy2 hG d
     have CD:=fun a b c e w' (hx:StW w' s a b c e) (hd:DeW w' d gv)=>y50h (zwc s a b c e d gv w' hx hd hG HB.out h2)
     have CW:=fun a b c e w' (hx:StW w' s a b c e) (hd:DeW w' d gv)=>y50h (zti s a b c e d gv w' hx hd hG HB.out h2)
     have CA:=fun af asv ao ak bf bs bo bk w' hA hB=>y50h (zzq hGU (zpe hGU.f) ▸ zgl (doS s d) (doS s d) af asv ao ak bf bs bo bk w' hA hB)
     have hUl:(doS s d).store.length ≤ 1000:=by have:=hGU.n;omega
     have CR1:=fun a b c e w' (h:StW w' (doS s d) a b c e)=>y50h (zfx (doS s d) a b c e w' h hUl)
     have CR2:=fun a b c e w' (h:StW w' (doS s d) a b c e)=>y50h (zs1 (doS s d) a b c e w' h hUl)
     have CS6:=fun va vb w' hA hB=>y50h (znc zcv zgb (zeh (doS s d)) (zeh (doS s d)) va vb w' hA hB (zvd hGU))
     generalize zeh (doS s d) = RU at *
     generalize doS s d = U at *
     generalize doE s d = E at *
     clear hms h2 hG hGU hUl
     go_enter Tryz.func4,Tryz.ntmps4
     go_upto_region 2 with (first | (go_at_call 7;refine (CU _).out.mono ?_;rintro e w1 ⟨rfl,hb⟩;replace OA:=y50h (OA.out.later hb);replace OP:=y50h (OP.out.later hb);replace BEL:=y50h (BEL.out.trans (hb.mono BEL.out.size));clear hb) | fail)
     replace OA:=y50h OA.out.drew
     replace OP:=y50h OP.out.drew
     replace BEL:=y50h BEL.out.drew
     refine wp_region_held_drew (S:=(fun w'=>(∀ o,w'.cell? ⟨w.heap.size,o,none⟩ = (siL s fv sv ov kv).toArray[o]?) ∧ ∀ o,w'.cell? ⟨w.heap.size + 1,o,none⟩ = (deL d gv).toArray[o]?)) (by kernel_rfl) (by exact ⟨OA.out.cell,OP.out.cell⟩) (fun hHeld=>?_)
     refine wpAnyH_take (i:=0) (v:=siV s fv sv ov kv) rfl (by kernel_rfl) (by kernel_rfl) (by kernel_rfl) (fun _ _ _ h=>h) (Or.inl ⟨by rfl,fun w5 h5=>zbc 33 _ rfl w.heap.size 0 (by rfl) (siL s fv sv ov kv) _ (fun j v hv=>by rw [Nat.zero_add,h5.1 j];simpa using hv) Tryz.underlying33 (by rfl) (by kernel_rfl)⟩) (by assumption) ?_
     try simp only [Act.put,y50a,y50b,y50c,y50d,y50e,y50f]
     refine wpAnyH_take (i:=2) (v:=?_) rfl (by kernel_rfl) (by kernel_rfl) (by kernel_rfl) (fun _ _ _ h=>h) (Or.inl ⟨by rfl,?_⟩) (by assumption) ?_
     rotate_left 1
     · (intro w hSw;(try dsimp only at hSw);go_simp;try with_reducible rfl)
     try simp only [Act.put,y50a,y50b,y50c,y50d,y50e,y50f]
     refine wpAnyH_take (i:=3) (v:=?_) rfl (by kernel_rfl) (by kernel_rfl) (by kernel_rfl) (fun _ _ _ h=>h) (Or.inl ⟨by rfl,?_⟩) (by assumption) ?_
     rotate_left 1
     · (intro w hSw;(try dsimp only at hSw);go_simp;try with_reducible rfl)
     try simp only [Act.put,y50a,y50b,y50c,y50d,y50e,y50f]
     refine wpAnyH_ready (rs:=[1]) (by kernel_rfl) (by simp) ?_
     refine AllReadyH.cons rfl (fun K hK=>?_) AllReadyH.nil
     try simp only [y50a,y50b,y50c]
     (go_simp;go_at_call 8;refine (CF _ (HS.out.later BEL.out)).out.mono ?_;rintro e w2 ⟨rfl,hb⟩;replace OA:=y50h (OA.out.later hb);replace OP:=y50h (OP.out.later hb);replace BEL:=y50h (BEL.out.trans (hb.mono BEL.out.size));clear hb)
     try go_wp2_with fail
     refine hK.out _ _ (by exact ⟨OA.out.cell,OP.out.cell⟩) (fun hHeld=>?_)
     clear hK K
     try simp only [Act.put,y50a,y50b,y50c,y50d,y50e,y50f]
     refine wpAnyH_ready (rs:=[4]) (by kernel_rfl) (by simp) ?_
     refine AllReadyH.cons rfl (fun K hK=>?_) AllReadyH.nil
     try simp only [y50a,y50b,y50c]
     (go_simp;go_at_call 9;refine (CM _ (HL.out.later BEL.out (Nat.le_refl _))).out.mono ?_;rintro e w2b ⟨rfl,hb⟩;replace OA:=y50h (OA.out.later hb);replace OP:=y50h (OP.out.later hb);replace BEL:=y50h (BEL.out.trans (hb.mono BEL.out.size));clear hb)
     try go_wp2_with fail
     refine hK.out _ _ (by exact ⟨OA.out.cell,OP.out.cell⟩) (fun hHeld=>?_)
     clear hK K
     try simp only [Act.put,y50a,y50b,y50c,y50d,y50e,y50f]
     refine wpAnyH_take (i:=5) (v:=?_) rfl (by kernel_rfl) (by kernel_rfl) (by kernel_rfl) (fun _ _ _ h=>h) (Or.inl ⟨by rfl,?_⟩) (by assumption) ?_
     rotate_left 1
     · (intro w hSw;(try dsimp only at hSw);go_simp;try with_reducible rfl)
     try simp only [Act.put,y50a,y50b,y50c,y50d,y50e,y50f]
     refine wpAnyH_take (i:=6) (v:=?_) rfl (by kernel_rfl) (by kernel_rfl) (by kernel_rfl) (fun _ _ _ h=>h) (Or.inl ⟨by rfl,?_⟩) (by assumption) ?_
     rotate_left 1
     · (intro w hSw;(try dsimp only at hSw);go_simp;try with_reducible rfl)
     try simp only [Act.put,y50a,y50b,y50c,y50d,y50e,y50f]
     refine wpAnyH_done (by kernel_rfl) ?_ _
     clear hHeld
     have hkv:kv.oneCell' = true:=by obtain ⟨_,_,e⟩:=HS.out.lk.val;rw [e];rfl
     go_upto_region 8 with (first | (refine wpList_load_mid (by rfl) 33 _ (by rfl) w.heap.size 0 (by rfl) (siL s fv sv ov kv) _ OA.out.range Tryz.underlying33 (by rfl) (by kernel_rfl) ?_) | (go_at_call 10;refine (CS _ (HS.out.later BEL.out)).out.mono ?_;rintro e w3 ⟨fx,sx,ox,rfl,hst,hb⟩;have g1:fx.oneCell' = true:=zar hst.lf;have g2:sx.oneCell' = true:=(by obtain ⟨_,_,_,_,e,_⟩:=hst.ls;rw [e];rfl);have g3:ox.oneCell' = true:=(by obtain ⟨_,_,_,_,e,_⟩:=hst.lo;rw [e];rfl);have g4:kv.oneCell' = true:=(by obtain ⟨_,_,e⟩:=hst.lk.val;rw [e];rfl);unfold Value.oneCell' at g1 g2 g3 g4;replace OA:=y50h (OA.out.later hb);replace OP:=y50h (OP.out.later hb);replace BEL:=y50h (BEL.out.trans (hb.mono BEL.out.size));have X:=y50h hst;have O8:=y50h (Own.new w3 stZ.toArray 43);clear hst hb) | (refine wpList_store_mid (by rfl) 43 _ _ (by rfl) w3.heap.size 0 (stA s fx sx ox kv) (by rfl) (by rfl) (O8.out.there (by rfl)) (by kernel_rfl) (by simp [Value.oneCell',g1,g2,g3,g4]) ?_;have HK:=y50h (And.intro (O8.out.sets (stA s fx sx ox kv).toList (by rfl)) (zab (B:=w3.heap.size) (b:=w3.heap.size) (Nat.le_refl _) (stA s fx sx ox kv).toList 0 ((Below.refl _ _).alloc (Nat.le_refl _) (.cells stZ.toArray 43))));revert HK;generalize World.setCells _ _ _ _ = W8;intro HK;have hb:=HK.out.2;replace O8:=y50h HK.out.1;replace OA:=y50h (OA.out.later hb);replace OP:=y50h (OP.out.later hb);replace X:=y50h (X.out.later hb);replace BEL:=y50h (BEL.out.trans (hb.mono BEL.out.size));clear HK hb) | (refine wpList_load_mid (by rfl) 43 _ (by rfl) w3.heap.size 0 (by rfl) (stA s fx sx ox kv).toList _ O8.out.range Tryz.underlying43 (by rfl) (by kernel_rfl) ?_) | (go_at_call 12;refine (zeq s fx sx ox kv _ X.out HB.out).mono ?_;rw [HMS.out];rintro e wm ⟨rfl,hb⟩;replace OP:=y50h (OP.out.later hb);replace O8:=y50h (O8.out.later hb);replace X:=y50h (X.out.later hb);replace BEL:=y50h (BEL.out.trans (hb.mono BEL.out.size));clear hb) | fail)
     go_upto_region 13 with (first | (refine wpList_load_mid (by rfl) 43 _ (by rfl) w3.heap.size 0 (by rfl) (stA s fx sx ox kv).toList _ O8.out.range Tryz.underlying43 (by rfl) (by kernel_rfl) ?_) | (refine wpList_load_mid (by rfl) 57 _ (by rfl) (w.heap.size + 1) 0 (by rfl) (deL d gv) _ OP.out.range Tryz.underlying57 (by rfl) (by kernel_rfl) ?_) | (go_at_call 18;refine (CD _ _ _ _ _ X.out (HD.out.later BEL.out)).out.mono ?_;rintro e w5 ⟨f5,s5,o5,k5,rfl,hst,hb⟩;have h1:f5.oneCell' = true:=zar hst.lf;have h2:s5.oneCell' = true:=(by obtain ⟨_,_,_,_,e,_⟩:=hst.ls;rw [e];rfl);have h3:o5.oneCell' = true:=(by obtain ⟨_,_,_,_,e,_⟩:=hst.lo;rw [e];rfl);have h4:k5.oneCell' = true:=(by obtain ⟨_,_,e⟩:=hst.lk.val;rw [e];rfl);unfold Value.oneCell' at h1 h2 h3 h4;replace OP:=y50h (OP.out.later hb);replace O8:=y50h (O8.out.later hb);replace X:=y50h (X.out.later hb);replace BEL:=y50h (BEL.out.trans (hb.mono BEL.out.size));have T:=y50h hst;have O9:=y50h (Own.new w5 stZ.toArray 43);clear hst hb) | (refine wpList_store_mid (by rfl) 43 _ _ (by rfl) w5.heap.size 0 (stA U f5 s5 o5 k5) (by rfl) (by rfl) (O9.out.there (by rfl)) (by kernel_rfl) (by simp [Value.oneCell',h1,h2,h3,h4]) ?_;have HK:=y50h (And.intro (O9.out.sets (stA U f5 s5 o5 k5).toList (by rfl)) (zab (B:=w5.heap.size) (b:=w5.heap.size) (Nat.le_refl _) (stA U f5 s5 o5 k5).toList 0 ((Below.refl _ _).alloc (Nat.le_refl _) (.cells stZ.toArray 43))));revert HK;generalize World.setCells _ _ _ _ = W9;intro HK;have hb:=HK.out.2;replace O9:=y50h HK.out.1;replace OP:=y50h (OP.out.later hb);replace O8:=y50h (O8.out.later hb);replace X:=y50h (X.out.later hb);replace T:=y50h (T.out.later hb);replace BEL:=y50h (BEL.out.trans (hb.mono BEL.out.size));clear HK hb) | (go_at_call 19;refine (CW _ _ _ _ _ X.out (HD.out.later BEL.out)).out.mono ?_;rintro e w7 ⟨f7,s7,o7,k7,rfl,hst,hb⟩;have j1:f7.oneCell' = true:=zar hst.lf;have j2:s7.oneCell' = true:=(by obtain ⟨_,_,_,_,e,_⟩:=hst.ls;rw [e];rfl);have j3:o7.oneCell' = true:=(by obtain ⟨_,_,_,_,e,_⟩:=hst.lo;rw [e];rfl);have j4:k7.oneCell' = true:=(by obtain ⟨_,_,e⟩:=hst.lk.val;rw [e];rfl);unfold Value.oneCell' at j1 j2 j3 j4;replace T:=y50h (T.out.later hb);replace O9:=y50h (O9.out.later hb);replace BEL:=y50h (BEL.out.trans (hb.mono BEL.out.size));have V:=y50h hst;have O11:=y50h (Own.new w7 stZ.toArray 43);clear hst hb) | (refine wpList_store_mid (by rfl) 43 _ _ (by rfl) w7.heap.size 0 (stA U f7 s7 o7 k7) (by rfl) (by rfl) (O11.out.there (by rfl)) (by kernel_rfl) (by simp [Value.oneCell',j1,j2,j3,j4]) ?_;have HK:=y50h (And.intro (O11.out.sets (stA U f7 s7 o7 k7).toList (by rfl)) (zab (B:=w7.heap.size) (b:=w7.heap.size) (Nat.le_refl _) (stA U f7 s7 o7 k7).toList 0 ((Below.refl _ _).alloc (Nat.le_refl _) (.cells stZ.toArray 43))));revert HK;generalize World.setCells _ _ _ _ = W11;intro HK;have hb:=HK.out.2;replace O11:=y50h HK.out.1;replace T:=y50h (T.out.later hb);replace O9:=y50h (O9.out.later hb);replace V:=y50h (V.out.later hb);replace BEL:=y50h (BEL.out.trans (hb.mono BEL.out.size));clear HK hb) | (refine wpList_load_mid (by rfl) 43 _ (by rfl) w5.heap.size 0 (by rfl) (stA U f5 s5 o5 k5).toList _ O9.out.range Tryz.underlying43 (by rfl) (by kernel_rfl) ?_) | (refine wpList_load_mid (by rfl) 43 _ (by rfl) w7.heap.size 0 (by rfl) (stA U f7 s7 o7 k7).toList _ O11.out.range Tryz.underlying43 (by rfl) (by kernel_rfl) ?_) | (go_at_call 16;refine (CA _ _ _ _ _ _ _ _ _ T.out V.out).out.mono ?_;rintro e w8 ⟨rfl,hb⟩;replace T:=y50h (T.out.later hb);replace O9:=y50h (O9.out.later hb);replace V:=y50h (V.out.later hb);replace O11:=y50h (O11.out.later hb);replace BEL:=y50h (BEL.out.trans (hb.mono BEL.out.size));clear hb) | fail)
     replace T:=y50h T.out.drew
     replace V:=y50h V.out.drew
     replace O9:=y50h O9.out.drew
     replace O11:=y50h O11.out.drew
     replace BEL:=y50h BEL.out.drew
     refine wp_region_held_drew (S:=(fun w'=>(∀ o,w'.cell? ⟨w5.heap.size,o,none⟩ = (stA U f5 s5 o5 k5)[o]?) ∧ ∀ o,w'.cell? ⟨w7.heap.size,o,none⟩ = (stA U f7 s7 o7 k7)[o]?)) (by kernel_rfl) (by exact ⟨O9.out.cell,O11.out.cell⟩) (fun hHeld=>?_)
     refine wpAnyH_take (i:=0) (v:=?_) rfl (by kernel_rfl) (by kernel_rfl) (by kernel_rfl) (fun _ _ _ h=>h) (Or.inl ⟨by rfl,?_⟩) (by assumption) ?_
     rotate_left 1
     · (intro w hSw;(try dsimp only at hSw);go_simp;try with_reducible rfl)
     try simp only [Act.put,y50a,y50b,y50c,y50d,y50e,y50f]
     refine wpAnyH_take (i:=1) (v:=?_) rfl (by kernel_rfl) (by kernel_rfl) (by kernel_rfl) (fun _ _ _ h=>h) (Or.inl ⟨by rfl,?_⟩) (by assumption) ?_
     rotate_left 1
     · (intro w hSw;(try dsimp only at hSw);go_simp;try with_reducible rfl)
     try simp only [Act.put,y50a,y50b,y50c,y50d,y50e,y50f]
     refine wpAnyH_take (i:=2) (v:=stV U f5 s5 o5 k5) rfl (by kernel_rfl) (by kernel_rfl) (by kernel_rfl) (fun _ _ _ h=>h) (Or.inl ⟨by rfl,fun w9 h5=>zbc 43 _ rfl w5.heap.size 0 (by rfl) (stA U f5 s5 o5 k5).toList _ (fun j v hv=>by rw [Nat.zero_add,h5.1 j];simpa using hv) Tryz.underlying43 (by rfl) (by kernel_rfl)⟩) (by assumption) ?_
     try simp only [Act.put,y50a,y50b,y50c,y50d,y50e,y50f]
     refine wpAnyH_take (i:=4) (v:=stV U f7 s7 o7 k7) rfl (by kernel_rfl) (by kernel_rfl) (by kernel_rfl) (fun _ _ _ h=>h) (Or.inl ⟨by rfl,fun w9 h5=>zbc 43 _ rfl w7.heap.size 0 (by rfl) (stA U f7 s7 o7 k7).toList _ (fun j v hv=>by rw [Nat.zero_add,h5.2 j];simpa using hv) Tryz.underlying43 (by rfl) (by kernel_rfl)⟩) (by assumption) ?_
     try simp only [Act.put,y50a,y50b,y50c,y50d,y50e,y50f]
     refine wpAnyH_ready (rs:=[3]) (by kernel_rfl) (by simp) ?_
     refine AllReadyH.cons rfl (fun K hK=>?_) AllReadyH.nil
     try simp only [y50a,y50b,y50c]
     (go_simp;go_at_call 21;refine (CR1 _ _ _ _ _ T.out).out.mono ?_;rintro e wa ⟨va,rfl,hr,hb⟩;replace T:=y50h (T.out.later hb);replace V:=y50h (V.out.later hb);replace O9:=y50h (O9.out.later hb);replace O11:=y50h (O11.out.later hb);replace BEL:=y50h (BEL.out.trans (hb.mono BEL.out.size));have RA:=y50h hr;clear hr hb)
     try go_wp2_with fail
     refine hK.out _ _ (by exact ⟨O9.out.cell,O11.out.cell⟩) (fun hHeld=>?_)
     clear hK K
     try simp only [Act.put,y50a,y50b,y50c,y50d,y50e,y50f]
     refine wpAnyH_ready (rs:=[5]) (by kernel_rfl) (by simp) ?_
     refine AllReadyH.cons rfl (fun K hK=>?_) AllReadyH.nil
     try simp only [y50a,y50b,y50c]
     (go_simp;go_at_call 22;refine (CR2 _ _ _ _ _ V.out).out.mono ?_;rintro e wb ⟨vb,rfl,hr,hb⟩;replace O9:=y50h (O9.out.later hb);replace O11:=y50h (O11.out.later hb);replace BEL:=y50h (BEL.out.trans (hb.mono BEL.out.size));have RB:=y50h hr;replace RA:=y50h (RA.out.later hb);clear hr hb)
     try go_wp2_with fail
     refine hK.out _ _ (by exact ⟨O9.out.cell,O11.out.cell⟩) (fun hHeld=>?_)
     clear hK K
     try simp only [Act.put,y50a,y50b,y50c,y50d,y50e,y50f]
     refine wpAnyH_ready (rs:=[6]) (by kernel_rfl) (by simp) ?_
     refine AllReadyH.cons rfl (fun K hK=>?_) AllReadyH.nil
     try simp only [y50a,y50b,y50c]
     (go_simp;go_at_call 20;refine (CS6 _ _ _ RA.out RB.out).out.mono ?_;rintro e wc ⟨rfl,hb⟩;replace O9:=y50h (O9.out.later hb);replace O11:=y50h (O11.out.later hb);replace BEL:=y50h (BEL.out.trans (hb.mono BEL.out.size));clear hb)
     try go_wp2_with fail
     refine hK.out _ _ (by exact ⟨O9.out.cell,O11.out.cell⟩) (fun hHeld=>?_)
     clear hK K
     try simp only [Act.put,y50a,y50b,y50c,y50d,y50e,y50f]
     refine wpAnyH_take (i:=7) (v:=?_) rfl (by kernel_rfl) (by kernel_rfl) (by kernel_rfl) (fun _ _ _ h=>h) (Or.inl ⟨by rfl,?_⟩) (by assumption) ?_
     rotate_left 1
     · (intro w hSw;(try dsimp only at hSw);go_simp;try with_reducible rfl)
     try simp only [Act.put,y50a,y50b,y50c,y50d,y50e,y50f]
     refine wpAnyH_take (i:=8) (v:=?_) rfl (by kernel_rfl) (by kernel_rfl) (by kernel_rfl) (fun _ _ _ h=>h) (Or.inl ⟨by rfl,?_⟩) (by assumption) ?_
     rotate_left 1
     · (intro w hSw;(try dsimp only at hSw);go_simp;try with_reducible rfl)
     try simp only [Act.put,y50a,y50b,y50c,y50d,y50e,y50f]
     refine wpAnyH_take (i:=9) (v:=?_) rfl (by kernel_rfl) (by kernel_rfl) (by kernel_rfl) (fun _ _ _ h=>h) (Or.inl ⟨by rfl,?_⟩) (by assumption) ?_
     rotate_left 1
     · (intro w hSw;(try dsimp only at hSw);go_simp;try with_reducible rfl)
     try simp only [Act.put,y50a,y50b,y50c,y50d,y50e,y50f]
     refine wpAnyH_done (by kernel_rfl) ?_ _
     clear hHeld
     go_wp2_with fail
     go_ret
     exact ⟨rfl,BEL.out⟩
end Go.Proofs.YthnllikalobmeaaGreat
