/- Joined: RefOwnK. -/
import Derived.Test.YthnllikalobmeaaGreatK26
namespace Go.Proofs.YthnllikalobmeaaGreat
set_option linter.unusedVariables false
set_option linter.unusedSimpArgs false
set_option maxRecDepth 100000
set_option maxHeartbeats 8000000
open Go.RowKit
theorem y31h {p:Prop} (h:p):Hid p:=Lib.hid h
structure OwS (w:World) (X Y Z:Array Value) (W:World):Prop where
 o1:Own W w.heap.size X 31
 o2:Own W (w.heap.size + 1) Y 67
 o3:Own W (w.heap.size + 1 + 1) Z 31
 be:Below w.heap.size w W
theorem OwS.later {w W W':World} {X Y Z:Array Value} (h:OwS w X Y Z W) (hb:Below W.heap.size W W'):OwS w X Y Z W' :=
 ⟨h.o1.later hb,h.o2.later hb,h.o3.later hb,h.be.trans (hb.mono h.be.size)⟩
theorem zpe {n:Int} (h1:-9223372036854775808 ≤ n) (h2:n ≤ 9223372036854775807):wrap64 n = n:=by unfold wrap64;omega
theorem zwm {K:Kn} {id:ByteArray} {r c:Int} (h:(r < 1 ∨ 8 < r ∨ c < 1) ∨ K.star (r - 1).toNat ≠ c - 1):ownK K id r c = zap K id r c:=by unfold ownK;rw [if_pos h]
theorem zwl {K:Kn} {id:ByteArray} {r c:Int} (h:¬((r < 1 ∨ 8 < r ∨ c < 1) ∨ K.star (r - 1).toNat ≠ c - 1)):ownK K id r c = ⟨zav K.star r c,K.l⟩:=by unfold ownK;rw [if_neg h]
theorem zmv (K:Kn) (id:ByteArray) (r c:Int) (v:Value) (w:World) (hR:FrW w K.l v) (hid:id.size ≤ maxLen) (hl1:(zaf (zap K id r c).l).length ≤ 10000) (hl2:K.l.length ≤ 10000) (hl3:(zaf K.l).length ≤ 10000) (hcw:c ≤ 9223372036854775807) :
   Calls Tryz.prog 147 #[knV K.star v,.string id,.agg #[.int .i64 r,.int .i64 c]] w fun e w'=>∃ v',e = .returned (knV (ownK K id r c).star v') ∧ FrFresh w' w.heap.size (zai (ownK K id r c)).l v' ∧ Below w.heap.size w w':=by
 obtain ⟨ov,cv,rfl⟩:=hR.val
 obtain ⟨A,l⟩:=K
 simp only at hR hl2 hl3 ⊢
 generalize hn:l.length = len at *
 have K0:=y31h (show OwS w (knA A (.slice ov len cv)) #[.int .i64 r,.int .i64 c] #[.int .i64 0,.int .i64 0,.int .i64 0,.int .i64 0,.int .i64 0,.int .i64 0,.int .i64 0,.int .i64 0,.slice none 0 0] (((w.alloc (.cells (knA A (.slice ov len cv)) 31)).alloc (.cells #[.int .i64 r,.int .i64 c] 67)).alloc (.cells #[.int .i64 0,.int .i64 0,.int .i64 0,.int .i64 0,.int .i64 0,.int .i64 0,.int .i64 0,.int .i64 0,.slice none 0 0] 31)) from
   ⟨((Own.new w (knA A (.slice ov len cv)) 31).alloc (.cells #[.int .i64 r,.int .i64 c] 67)).alloc (.cells #[.int .i64 0,.int .i64 0,.int .i64 0,.int .i64 0,.int .i64 0,.int .i64 0,.int .i64 0,.int .i64 0,.slice none 0 0] 31),
    (Own.newAt (w.alloc (.cells (knA A (.slice ov len cv)) 31)) #[.int .i64 r,.int .i64 c] 67 (b:=w.heap.size + 1) (by simp)).alloc (.cells #[.int .i64 0,.int .i64 0,.int .i64 0,.int .i64 0,.int .i64 0,.int .i64 0,.int .i64 0,.int .i64 0,.slice none 0 0] 31),
    Own.newAt ((w.alloc (.cells (knA A (.slice ov len cv)) 31)).alloc (.cells #[.int .i64 r,.int .i64 c] 67)) #[.int .i64 0,.int .i64 0,.int .i64 0,.int .i64 0,.int .i64 0,.int .i64 0,.int .i64 0,.int .i64 0,.slice none 0 0] 31 (b:=w.heap.size + 1 + 1) (by simp),
    (((Below.refl w.heap.size w).alloc (Nat.le_refl _) (.cells (knA A (.slice ov len cv)) 31)).alloc (by simp) (.cells #[.int .i64 r,.int .i64 c] 67)).alloc (by simp;omega) (.cells #[.int .i64 0,.int .i64 0,.int .i64 0,.int .i64 0,.int .i64 0,.int .i64 0,.int .i64 0,.int .i64 0,.slice none 0 0] 31)⟩)
 by_cases hc:(r < 1 ∨ 8 < r ∨ c < 1) ∨ A (r - 1).toNat ≠ c - 1
 · rw [zwm (K:=⟨A,l⟩) hc]
   have WJ:=fun w' (hb:Below w.heap.size w w')=>y31h (show Calls Tryz.prog 102 #[knV A (.slice ov len cv),.string id,.agg #[.int .i64 r,.int .i64 c]] w' (fun e w''=>∃ v',e = .returned (knV A v') ∧ FrFresh w'' w'.heap.size (zai (zap ⟨A,l⟩ id r c)).l v' ∧ Below w'.heap.size w' w'') from zf6 ⟨A,l⟩ id r c (.slice ov len cv) w' (hR.later hb (Nat.le_refl _)) hid hl1 (by simp only;omega))
   rw [show (zap ⟨A,l⟩ id r c).star = A from rfl]
   generalize (zai (zap ⟨A,l⟩ id r c)).l = res at *
   clear hR hid hl1 hl2 hl3 hn
   have LA:=fun dd os q=>K0.out.o1.has.regrown dd os q
   have LB:=fun dd os q=>K0.out.o2.has.regrown dd os q
   by_cases h1:r < 1
   · have g1:decide (r < 1) = true:=decide_eq_true h1
     clear hc
     go_enter Tryz.func147,Tryz.ntmps147
     go_wp2_with fail
     refine wp_region_quiet_below (by kernel_rfl) (by kernel_rfl) ?_
     repeat (first | go_big_quiet_step (fail) | quiet_step (fail))
     refine wpQuiet_nil ?_
     intro w7 hw'
     have hb':=y31h (zac hw')
     clear hw' LA LB
     have K7:=y31h (K0.out.later hb'.out)
     have l1:=K7.out.o1.cell
     have l2:=K7.out.o2.cell
     have z1:=K7.out.o1.lt
     have z2:=K7.out.o2.lt
     have WC:=WJ w7 K7.out.be
     clear WJ K0 hb'
     go_wp2_with (go_at_call 102;refine (WC).out.mono ?_;rintro e w9 ⟨v9,rfl,hf9,hb9⟩;obtain ⟨o9,c9,rfl⟩:=hf9.fr.val;have O9:=K7.out.o3.later hb9;have l9:=O9.cell;have f9:=O9.free;have z9:=O9.lt;have KEY:=y31h (And.intro (zb6 O9 (.int .i64 (A 0)) (.int .i64 (A 1)) (.int .i64 (A 2)) (.int .i64 (A 3)) (.int .i64 (A 4)) (.int .i64 (A 5)) (.int .i64 (A 6)) (.int .i64 (A 7)) (.slice o9 res.length c9)) (And.intro (zbh (b:=w.heap.size + 1 + 1) (K7.out.be.trans (hb9.mono K7.out.be.size)) (by omega) (.int .i64 (A 0)) (.int .i64 (A 1)) (.int .i64 (A 2)) (.int .i64 (A 3)) (.int .i64 (A 4)) (.int .i64 (A 5)) (.int .i64 (A 6)) (.int .i64 (A 7)) (.slice o9 res.length c9)) ((hf9.set9 K7.out.o3.lt (.int .i64 (A 0)) (.int .i64 (A 1)) (.int .i64 (A 2)) (.int .i64 (A 3)) (.int .i64 (A 4)) (.int .i64 (A 5)) (.int .i64 (A 6)) (.int .i64 (A 7)) (.slice o9 res.length c9)).mono K7.out.be.size)));clear O9 hf9 hb9)
     clear l9 f9 z9
     have key:=KEY.out
     unfold st9 st8 at key
     revert key
     generalize World.setCell (World.setCell (World.setCell (World.setCell (World.setCell (World.setCell (World.setCell (World.setCell (World.setCell _ _ _) _ _) _ _) _ _) _ _) _ _) _ _) _ _) _ _ = WW
     rintro ⟨of,bf,ff⟩
     have lf:=of.cell
     refine bodyPost_ret (v:=knV (A) (.slice o9 res.length c9)) (by simp [results,Tryz.results147,go_sem,lf]) rfl ⟨_,rfl,ff,bf⟩
   by_cases h2:8 < r
   · have g1:decide (r < 1) = false:=decide_eq_false h1
     have g2:decide (8 < r) = true:=decide_eq_true h2
     clear hc
     go_enter Tryz.func147,Tryz.ntmps147
     go_wp2_with fail
     refine wp_region_quiet_below (by kernel_rfl) (by kernel_rfl) ?_
     repeat (first | go_big_quiet_step (fail) | quiet_step (fail))
     refine wpQuiet_nil ?_
     intro w7 hw'
     have hb':=y31h (zac hw')
     clear hw' LA LB
     have K7:=y31h (K0.out.later hb'.out)
     have l1:=K7.out.o1.cell
     have l2:=K7.out.o2.cell
     have z1:=K7.out.o1.lt
     have z2:=K7.out.o2.lt
     have WC:=WJ w7 K7.out.be
     clear WJ K0 hb'
     go_wp2_with (go_at_call 102;refine (WC).out.mono ?_;rintro e w9 ⟨v9,rfl,hf9,hb9⟩;obtain ⟨o9,c9,rfl⟩:=hf9.fr.val;have O9:=K7.out.o3.later hb9;have l9:=O9.cell;have f9:=O9.free;have z9:=O9.lt;have KEY:=y31h (And.intro (zb6 O9 (.int .i64 (A 0)) (.int .i64 (A 1)) (.int .i64 (A 2)) (.int .i64 (A 3)) (.int .i64 (A 4)) (.int .i64 (A 5)) (.int .i64 (A 6)) (.int .i64 (A 7)) (.slice o9 res.length c9)) (And.intro (zbh (b:=w.heap.size + 1 + 1) (K7.out.be.trans (hb9.mono K7.out.be.size)) (by omega) (.int .i64 (A 0)) (.int .i64 (A 1)) (.int .i64 (A 2)) (.int .i64 (A 3)) (.int .i64 (A 4)) (.int .i64 (A 5)) (.int .i64 (A 6)) (.int .i64 (A 7)) (.slice o9 res.length c9)) ((hf9.set9 K7.out.o3.lt (.int .i64 (A 0)) (.int .i64 (A 1)) (.int .i64 (A 2)) (.int .i64 (A 3)) (.int .i64 (A 4)) (.int .i64 (A 5)) (.int .i64 (A 6)) (.int .i64 (A 7)) (.slice o9 res.length c9)).mono K7.out.be.size)));clear O9 hf9 hb9)
     clear l9 f9 z9
     have key:=KEY.out
     unfold st9 st8 at key
     revert key
     generalize World.setCell (World.setCell (World.setCell (World.setCell (World.setCell (World.setCell (World.setCell (World.setCell (World.setCell _ _ _) _ _) _ _) _ _) _ _) _ _) _ _) _ _) _ _ = WW
     rintro ⟨of,bf,ff⟩
     have lf:=of.cell
     refine bodyPost_ret (v:=knV (A) (.slice o9 res.length c9)) (by simp [results,Tryz.results147,go_sem,lf]) rfl ⟨_,rfl,ff,bf⟩
   by_cases h3:c < 1
   · have g1:decide (r < 1) = false:=decide_eq_false h1
     have g2:decide (8 < r) = false:=decide_eq_false h2
     have g3:decide (c < 1) = true:=decide_eq_true h3
     clear hc
     go_enter Tryz.func147,Tryz.ntmps147
     go_wp2_with fail
     refine wp_region_quiet_below (by kernel_rfl) (by kernel_rfl) ?_
     repeat (first | go_big_quiet_step (fail) | quiet_step (fail))
     refine wpQuiet_nil ?_
     intro w7 hw'
     have hb':=y31h (zac hw')
     clear hw' LA LB
     have K7:=y31h (K0.out.later hb'.out)
     have l1:=K7.out.o1.cell
     have l2:=K7.out.o2.cell
     have z1:=K7.out.o1.lt
     have z2:=K7.out.o2.lt
     have WC:=WJ w7 K7.out.be
     clear WJ K0 hb'
     go_wp2_with (go_at_call 102;refine (WC).out.mono ?_;rintro e w9 ⟨v9,rfl,hf9,hb9⟩;obtain ⟨o9,c9,rfl⟩:=hf9.fr.val;have O9:=K7.out.o3.later hb9;have l9:=O9.cell;have f9:=O9.free;have z9:=O9.lt;have KEY:=y31h (And.intro (zb6 O9 (.int .i64 (A 0)) (.int .i64 (A 1)) (.int .i64 (A 2)) (.int .i64 (A 3)) (.int .i64 (A 4)) (.int .i64 (A 5)) (.int .i64 (A 6)) (.int .i64 (A 7)) (.slice o9 res.length c9)) (And.intro (zbh (b:=w.heap.size + 1 + 1) (K7.out.be.trans (hb9.mono K7.out.be.size)) (by omega) (.int .i64 (A 0)) (.int .i64 (A 1)) (.int .i64 (A 2)) (.int .i64 (A 3)) (.int .i64 (A 4)) (.int .i64 (A 5)) (.int .i64 (A 6)) (.int .i64 (A 7)) (.slice o9 res.length c9)) ((hf9.set9 K7.out.o3.lt (.int .i64 (A 0)) (.int .i64 (A 1)) (.int .i64 (A 2)) (.int .i64 (A 3)) (.int .i64 (A 4)) (.int .i64 (A 5)) (.int .i64 (A 6)) (.int .i64 (A 7)) (.slice o9 res.length c9)).mono K7.out.be.size)));clear O9 hf9 hb9)
     clear l9 f9 z9
     have key:=KEY.out
     unfold st9 st8 at key
     revert key
     generalize World.setCell (World.setCell (World.setCell (World.setCell (World.setCell (World.setCell (World.setCell (World.setCell (World.setCell _ _ _) _ _) _ _) _ _) _ _) _ _) _ _) _ _) _ _ = WW
     rintro ⟨of,bf,ff⟩
     have lf:=of.cell
     refine bodyPost_ret (v:=knV (A) (.slice o9 res.length c9)) (by simp [results,Tryz.results147,go_sem,lf]) rfl ⟨_,rfl,ff,bf⟩
   · obtain ⟨k,rfl⟩:∃ k:Nat,r = (k:Int) + 1:=⟨(r - 1).toNat,by omega⟩
     have hk:k < 8:=by omega
     have g1:decide ((k:Int) + 1 < 1) = false:=decide_eq_false h1
     have g2:decide (8 < (k:Int) + 1) = false:=decide_eq_false h2
     have g3:decide (c < 1) = false:=decide_eq_false h3
     have g4:(k:Int) + 1 - 1 = (k:Int):=by omega
     have e:((k:Int) + 1 - 1).toNat = k:=by omega
     rw [e] at hc
     have hne:A k ≠ c - 1:=by rcases hc with h | h;omega;exact h
     have g7:wrap64 (c - 1) = c - 1:=zpe (by omega) (by omega)
     have g5:(A k == c - 1) = false:=by simp [hne]
     have g6:(A k != c - 1) = true:=by simp [hne]
     replace LA:=fun dd os=>(K0.out.o1.has.regrown dd os k).trans (zk1 A _ hk)
     have k0:(0:Int) ≤ (k:Int):=by omega
     have k1:(k:Int) < 8:=by omega
     clear hc h1 h2 h3 e hne
     go_enter Tryz.func147,Tryz.ntmps147
     go_wp2_with fail
     refine wp_region_quiet_below (by kernel_rfl) (by kernel_rfl) ?_
     repeat (first | go_big_quiet_step (fail) | quiet_step (fail))
     refine wpQuiet_nil ?_
     intro w7 hw'
     have hb':=y31h (zac hw')
     clear hw' LA LB
     have K7:=y31h (K0.out.later hb'.out)
     have l1:=K7.out.o1.cell
     have l2:=K7.out.o2.cell
     have z1:=K7.out.o1.lt
     have z2:=K7.out.o2.lt
     have WC:=WJ w7 K7.out.be
     clear WJ K0 hb'
     go_wp2_with (go_at_call 102;refine (WC).out.mono ?_;rintro e w9 ⟨v9,rfl,hf9,hb9⟩;obtain ⟨o9,c9,rfl⟩:=hf9.fr.val;have O9:=K7.out.o3.later hb9;have l9:=O9.cell;have f9:=O9.free;have z9:=O9.lt;have KEY:=y31h (And.intro (zb6 O9 (.int .i64 (A 0)) (.int .i64 (A 1)) (.int .i64 (A 2)) (.int .i64 (A 3)) (.int .i64 (A 4)) (.int .i64 (A 5)) (.int .i64 (A 6)) (.int .i64 (A 7)) (.slice o9 res.length c9)) (And.intro (zbh (b:=w.heap.size + 1 + 1) (K7.out.be.trans (hb9.mono K7.out.be.size)) (by omega) (.int .i64 (A 0)) (.int .i64 (A 1)) (.int .i64 (A 2)) (.int .i64 (A 3)) (.int .i64 (A 4)) (.int .i64 (A 5)) (.int .i64 (A 6)) (.int .i64 (A 7)) (.slice o9 res.length c9)) ((hf9.set9 K7.out.o3.lt (.int .i64 (A 0)) (.int .i64 (A 1)) (.int .i64 (A 2)) (.int .i64 (A 3)) (.int .i64 (A 4)) (.int .i64 (A 5)) (.int .i64 (A 6)) (.int .i64 (A 7)) (.slice o9 res.length c9)).mono K7.out.be.size)));clear O9 hf9 hb9)
     clear l9 f9 z9
     have key:=KEY.out
     unfold st9 st8 at key
     revert key
     generalize World.setCell (World.setCell (World.setCell (World.setCell (World.setCell (World.setCell (World.setCell (World.setCell (World.setCell _ _ _) _ _) _ _) _ _) _ _) _ _) _ _) _ _) _ _ = WW
     rintro ⟨of,bf,ff⟩
     have lf:=of.cell
     refine bodyPost_ret (v:=knV (A) (.slice o9 res.length c9)) (by simp [results,Tryz.results147,go_sem,lf]) rfl ⟨_,rfl,ff,bf⟩
 · rw [zwl (K:=⟨A,l⟩) hc]
   have PJ:=fun v w' h=>y31h (show Calls Tryz.prog 89 #[knV (zav A r c) v] w' (fun e w''=>∃ v',e = .returned (knV (zav A r c) v') ∧ FrFresh w'' w'.heap.size (zai ⟨zav A r c,l⟩).l v' ∧ Below w'.heap.size w' w'') from zfp ⟨zav A r c,l⟩ v w' h hl3)
   have X:=fun w'=>y31h (zhc A r c w')
   simp only
   generalize (zai ⟨zav A r c,l⟩).l = res at *
   have h1:¬ r < 1:=by omega
   have h2:¬ 8 < r:=by omega
   have h3:¬ c < 1:=by omega
   obtain ⟨k,rfl⟩:∃ k:Nat,r = (k:Int) + 1:=⟨(r - 1).toNat,by omega⟩
   have hk:k < 8:=by omega
   have e:((k:Int) + 1 - 1).toNat = k:=by omega
   rw [e] at hc
   have heq:A k = c - 1:=by omega
   have g1:decide ((k:Int) + 1 < 1) = false:=decide_eq_false h1
   have g2:decide (8 < (k:Int) + 1) = false:=decide_eq_false h2
   have g3:decide (c < 1) = false:=decide_eq_false h3
   have g4:(k:Int) + 1 - 1 = (k:Int):=by omega
   have g7:wrap64 (c - 1) = c - 1:=zpe (by omega) (by omega)
   have g5:(A k == c - 1) = true:=by simp [heq]
   have g6:(A k != c - 1) = false:=by simp [heq]
   have LB:=fun dd os q=>K0.out.o2.has.regrown dd os q
   have LA:=fun dd os=>(K0.out.o1.has.regrown dd os k).trans (zk1 A _ hk)
   have k0:(0:Int) ≤ (k:Int):=by omega
   have k1:(k:Int) < 8:=by omega
   have HRR:=y31h hR
   clear hc h1 h2 h3 e heq hR hid hl1 hl2 hl3
   generalize hV:zav A ((k:Int) + 1) c = V at *
   clear hV
   go_enter Tryz.func147,Tryz.ntmps147
   go_wp2_with fail
   refine wp_region_quiet_below (by kernel_rfl) (by kernel_rfl) ?_
   repeat (first | go_big_quiet_step (fail) | quiet_step (fail))
   refine wpQuiet_nil ?_
   intro w7 hw'
   have hb':=y31h (zac hw')
   clear hw' LA LB
   have K7:=y31h (K0.out.later hb'.out)
   clear K0 hb' g7 g1 g2 g3 g4 g5 g6
   go_upto_region 3 with fail
   go_cut [7] (fun s7 wx=>∃ bt,s7 = .pointer (some ⟨bt,0,none⟩) ∧ Hid (OwS w (knA A (.slice ov len cv)) #[.int .i64 ((k:Int) + 1),.int .i64 c] #[.int .i64 0,.int .i64 0,.int .i64 0,.int .i64 0,.int .i64 0,.int .i64 0,.int .i64 0,.int .i64 0,.slice none 0 0] wx) ∧ Hid (Own wx bt (knA V (.slice ov len cv)) 31))
   case first =>
     clear PJ
     have KD:=y31h (K7.out.later (Below.refl _ _).drew)
     have KA:=y31h (K7.out.later ((Below.refl w7.heap.size w7).alloc (Nat.le_refl _) (.cells #[.int .i64 0,.int .i64 0,.int .i64 0,.int .i64 0,.int .i64 0,.int .i64 0,.int .i64 0,.int .i64 0,.slice none 0 0] 31)).drew)
     go_region_held3 (fun w'=>(∀ q,w'.cell? ⟨w.heap.size,q,none⟩ = (knA A (.slice ov len cv))[q]?) ∧ ∀ q,w'.cell? ⟨w.heap.size + 1,q,none⟩ = (#[.int .i64 ((k:Int) + 1),.int .i64 c]:Array Value)[q]?) (first | with_reducible exact ⟨KD.out.o1.cell,KD.out.o2.cell⟩ | with_reducible exact ⟨KA.out.o1.cell,KA.out.o2.cell⟩ | with_reducible exact ⟨K8.out.o1.cell,K8.out.o2.cell⟩ | with_reducible exact ⟨Q3.out.o1.cell,Q3.out.o2.cell⟩ | with_reducible exact ⟨Q2.out.1.o1.cell,Q2.out.1.o2.cell⟩ | exact ⟨Q1.out.1.o1.cell,Q1.out.1.o2.cell⟩ | fail)
       (first
         | (go_simp;go_at_call 148;refine (X _).out.mono ?_;rintro e w8 ⟨rfl,hb8⟩;have B3:Below w7.heap.size w7 w8:=((Below.refl w7.heap.size w7).alloc (Nat.le_refl _) (.cells #[.int .i64 0,.int .i64 0,.int .i64 0,.int .i64 0,.int .i64 0,.int .i64 0,.int .i64 0,.int .i64 0,.slice none 0 0] 31)).drew.trans (hb8.mono (by simp));have ov3:Own w8 w7.heap.size #[.int .i64 0,.int .i64 0,.int .i64 0,.int .i64 0,.int .i64 0,.int .i64 0,.int .i64 0,.int .i64 0,.slice none 0 0] 31:=((Own.new w7 #[.int .i64 0,.int .i64 0,.int .i64 0,.int .i64 0,.int .i64 0,.int .i64 0,.int .i64 0,.int .i64 0,.slice none 0 0] 31).drew).later hb8;have K8:=y31h (K7.out.later B3);have lv:=ov3.cell;have fv:=ov3.free;have zv:=ov3.lt;have Q1:=y31h (And.intro (K7.out.later (zbh B3 (Nat.le_refl _) (.int .i64 (V 0)) (.int .i64 (V 1)) (.int .i64 (V 2)) (.int .i64 (V 3)) (.int .i64 (V 4)) (.int .i64 (V 5)) (.int .i64 (V 6)) (.int .i64 (V 7)) (.slice ov len cv))) (zb6 ov3 (.int .i64 (V 0)) (.int .i64 (V 1)) (.int .i64 (V 2)) (.int .i64 (V 3)) (.int .i64 (V 4)) (.int .i64 (V 5)) (.int .i64 (V 6)) (.int .i64 (V 7)) (.slice ov len cv)));clear hb8 ov3 B3)
         | (go_simp;go_at_call 148;refine (X _).out.mono ?_;rintro e w8 ⟨rfl,hb8⟩;have B3:Below w7.heap.size w7 w8:=(Below.refl w7.heap.size w7).drew.trans hb8;have K8:=y31h (K7.out.later B3);have Q2:=y31h (And.intro (K8.out.later ((Below.refl w8.heap.size w8).alloc (Nat.le_refl _) (.cells (knA V (.slice ov len cv)) 31))) (Own.new w8 (knA V (.slice ov len cv)) 31));have Q3:=y31h (K8.out.later ((Below.refl w8.heap.size w8).alloc (Nat.le_refl _) (.cells #[.int .i64 0,.int .i64 0,.int .i64 0,.int .i64 0,.int .i64 0,.int .i64 0,.int .i64 0,.int .i64 0,.slice none 0 0] 31)));clear hb8 B3)
         | fail)
     all_goals
       go_wp2_with fail
       go_meet
       first
         | exact ⟨_,rfl,y31h Q1.out.1,y31h Q1.out.2⟩
         | exact ⟨_,rfl,y31h Q2.out.1,y31h Q2.out.2⟩
   case rest =>
     clear K7
     obtain ⟨bt,rfl,K7,HT⟩:=hcut
     generalize wc = wq at *
     have C:=PJ (.slice ov len cv) wq (HRR.out.later K7.out.be (Nat.le_refl _))
     have lT:=HT.out.cell
     have zT:=HT.out.lt
     clear PJ X HRR
     go_wp2_with (go_at_call 89;refine (C).out.mono ?_;rintro e w9 ⟨v9,rfl,hf9,hb9⟩;obtain ⟨o9,c9,rfl⟩:=hf9.fr.val;have O9:=K7.out.o3.later hb9;have l9:=O9.cell;have f9:=O9.free;have z9:=O9.lt;have KEY:=y31h (And.intro (zb6 O9 (.int .i64 (V 0)) (.int .i64 (V 1)) (.int .i64 (V 2)) (.int .i64 (V 3)) (.int .i64 (V 4)) (.int .i64 (V 5)) (.int .i64 (V 6)) (.int .i64 (V 7)) (.slice o9 res.length c9)) (And.intro (zbh (b:=w.heap.size + 1 + 1) (K7.out.be.trans (hb9.mono K7.out.be.size)) (by omega) (.int .i64 (V 0)) (.int .i64 (V 1)) (.int .i64 (V 2)) (.int .i64 (V 3)) (.int .i64 (V 4)) (.int .i64 (V 5)) (.int .i64 (V 6)) (.int .i64 (V 7)) (.slice o9 res.length c9)) ((hf9.set9 K7.out.o3.lt (.int .i64 (V 0)) (.int .i64 (V 1)) (.int .i64 (V 2)) (.int .i64 (V 3)) (.int .i64 (V 4)) (.int .i64 (V 5)) (.int .i64 (V 6)) (.int .i64 (V 7)) (.slice o9 res.length c9)).mono K7.out.be.size)));clear O9 hf9 hb9)
     clear lT zT
     clear l9 f9 z9
     have key:=KEY.out
     unfold st9 st8 at key
     revert key
     generalize World.setCell (World.setCell (World.setCell (World.setCell (World.setCell (World.setCell (World.setCell (World.setCell (World.setCell _ _ _) _ _) _ _) _ _) _ _) _ _) _ _) _ _) _ _ = WW
     rintro ⟨of,bf,ff⟩
     have lf:=of.cell
     refine bodyPost_ret (v:=knV (V) (.slice o9 res.length c9)) (by simp [results,Tryz.results147,go_sem,lf]) rfl ⟨_,rfl,ff,bf⟩
end Go.Proofs.YthnllikalobmeaaGreat
